import PyProof.Rows.All
import Wide.All
import OpenK.AllK
import Wide.FinOn
import Lean
import PyProof.EqAt
import PyProof.EqKinds
import PyProof.TupleCall
import KE.KDictOf
import KE.KRevIter
import KE.KEqDict
import KE.KMinKey
import KE.KTryDeep
import KE.KIsAll
import KE.KSortTup
import OpenK.KTop
import KE.KPairComp
import KE.KDictSum
import PyProof.Rows.SortStr
import PyProof.NeKinds
import PyProof.Rows.SortShellK
import KE.KDictList
import PyProof.FString5
import KE.KIntText
import PyProof.DictValues
import PyProof.DictWalks
import PyProof.StrCalls
import PyProof.StrOps2
import PyProof.StrLawsNeg
import PyProof.StrLawsTight
import PyProof.Rows.StrFirst
import KE.KxWritten
import PySem.Challenge.RW_nonebetter_k96_no_pictures
noncomputable section
abbrev Fg := PySem.W.Frag
section
open PySem PySem.Spec PySem.W PyProof.Rows
abbrev jQ := @wpAny_bind
abbrev jX := @List.length_map
abbrev jY := @List.mem_cons_self
abbrev jZ := @List.length_append
abbrev jJ := @Nat.le_refl
abbrev jK := @List.getElem?_eq_some_iff
abbrev jV := @List.mem_singleton
abbrev jW := @Heap.get?_push_of_some
abbrev kQ := @wpAny_pure
abbrev kX := @List.size_toArray
abbrev kY := @List.mem_of_getElem?
abbrev kZ := @of_decide_eq_true
abbrev kJ := @List.mem_cons_of_mem
abbrev kK := @List.mem_cons
abbrev kW := @List.mem_append
abbrev yQ := @List.length_cons
abbrev yX := @decide_eq_true
abbrev yY := @Bool.false_ne_true
abbrev yZ := @List.getElem?_map
abbrev yJ := @Heap.get?_push_size
abbrev yK := @List.map_append
abbrev yV := @List.mem_append_right
abbrev yW := @List.take_length
abbrev zQ := @Heap.lt_size
abbrev zX := @List.map_cons
abbrev zY := @List.mem_append_left
abbrev zZ := @List.length_take
abbrev zJ := @Nat.lt_of_le_of_lt
abbrev zK := @List.mem_map
abbrev zV := @List.mem_filter
abbrev zW := @List.take_of_length_le
abbrev xQ := @List.length_filterMap_le
abbrev xX := @List.mem_filterMap
abbrev xY := @List.append_assoc
abbrev xZ := @Nat.ne_of_lt
abbrev xJ := @Nat.add_le_add_left
abbrev xK := @decide_eq_false
abbrev xV := @List.append_nil
abbrev xW := @Nat.lt_of_lt_of_le
abbrev wQ := @Int.emod_lt_of_pos
abbrev wX := @List.length_range
abbrev wY := @List.length_replicate
abbrev wZ := @Nat.le_trans
abbrev wJ := @Nat.zero_le
abbrev wK := @List.filter_cons_of_neg
abbrev wV := @Bool.and_eq_true
abbrev wW := @Nat.succ_le_succ
abbrev jQa := @List.mem_iff_getElem?
abbrev jQb := @Nat.min_eq_left
abbrev jQc := @Int.emod_nonneg
abbrev jQd := @List.lookup_cons
abbrev jQe := @List.filter_cons_of_pos
abbrev jQf := @List.filterMap_cons
abbrev jXa := @Array.length_toList
abbrev jXb := @List.length_drop
abbrev jXc := @List.mem_nil_iff
abbrev jXd := @Heap.get?_update_other
abbrev jXe := @List.any_eq_true
abbrev jXf := @Heap.get?_update_self
abbrev jYa := @List.length_filter_le
abbrev jYb := @List.pairwise_cons
abbrev jYc := @List.all_eq_true
abbrev jYd := @List.getElem?_append_left
abbrev jYe := @Int.toNat_natCast
abbrev jYf := @List.flatMap_cons
abbrev jZa := @List.sum_cons
abbrev jZb := @List.pairwise_append
abbrev jZc := @List.mem_flatMap
abbrev jZd := @Nat.lt_irrefl
abbrev jZe := @Option.map_eq_some_iff
abbrev jZf := @Array.getElem?_toList
abbrev jJa := @List.eq_nil_of_length_eq_zero
abbrev jJb := @List.drop_zero
abbrev jJc := @Bool.eq_iff_iff
abbrev jJd := @Heap.size_push
abbrev jJe := @List.getElem?_append_right
abbrev jJf := @Bool.false_eq_true
abbrev jKa := @List.filter_append
abbrev jKb := @Array.getElem?_eq_some_iff
abbrev jKc := @List.pairwise_singleton
abbrev jKd := @Nat.toDigits_of_lt_base
abbrev jKe := @List.isEmpty_iff
abbrev jKf := @List.getElem?_set_self
abbrev kQa := @List.map_map
abbrev kQb := @List.nodup_cons
abbrev kQc := @List.find?_cons
abbrev kQd := @Nat.not_lt_zero
abbrev kQe := @Nat.lt_succ_of_lt
abbrev kQf := @List.filter_cons
abbrev kXa := @Array.toList_append
abbrev kXb := @Option.isSome_iff_exists
abbrev kXc := @List.getElem?_take_of_lt
abbrev kXd := @plainId_quiet
abbrev kXe := @List.map_take
abbrev kXf := @Option.map_some
abbrev kYa := @List.contains_cons
abbrev kYb := @Int.le_refl
abbrev kYc := @Nat.ne_of_gt
abbrev kYd := @Int.zero_add
abbrev kYe := @Nat.sub_zero
abbrev kYf := @Nat.lt_trichotomy
abbrev kZa := @List.drop_of_length_le
abbrev kZb := @List.getElem?_eq_none
abbrev kZc := @List.take_append_drop
abbrev kZd := @Nat.min_eq_right
abbrev kZe := @List.cons_ne_nil
abbrev kZf := @List.any_cons
abbrev kJa := @List.mem_of_mem_drop
abbrev kJb := @List.length_nil
abbrev kJc := @List.take_left'
abbrev kJd := @List.getElem_of_mem
abbrev kJe := @List.map_congr_left
abbrev kJf := @Nat.le_of_eq
abbrev kKa := @List.mem_range
abbrev kKb := @List.take_zero
abbrev kKc := @List.getElem?_eq_none_iff
abbrev kKd := @Array.getElem?_eq_getElem
abbrev kKe := @Array.size_append
abbrev kKf := @List.filterMap_eq_filter
abbrev yQa := @List.getElem_append_left
abbrev yQb := @List.getElem_mem
abbrev yQc := @List.pairwise_filterMap
abbrev yQd := @Nat.add_sub_cancel_left
abbrev yQe := @List.append_cancel_left
abbrev yQf := @List.map_nil
abbrev yXa := @Int.ne_of_gt
abbrev yXb := @List.getElem_replicate
abbrev yXc := @List.length_set
abbrev yXd := @Bool.or_eq_true
abbrev yXe := @List.foldl_cons
abbrev yXf := @List.nil_append
abbrev yYa := @List.range_succ
abbrev yYb := @Array.getElem?_setIfInBounds_self_of_lt
abbrev yYc := @Heap.get?_none_of_le
abbrev yYd := @List.getElem?_set_ne
abbrev yYe := @Nat.le_succ
abbrev yYf := @List.mem_of_mem_take
abbrev yZa := @List.mem_map_of_mem
abbrev yZb := @List.flatMap_append
abbrev yZc := @List.getElem?_range
abbrev yZd := @List.replicate_succ
abbrev yZe := @List.map_eq_nil_iff
end
abbrev gE := @List.getElem?_eq_getElem
set_option Elab.async false
set_option linter.all false
set_option maxRecDepth 100000
set_option maxHeartbeats 4000000
set_option bootstrap.genMatcherCode false
set_option genSizeOfSpec false
set_option compiler.extract_closed false
abbrev VP:=PySem.Value->PySem.Shared->Prop
abbrev Z7:=List (PySem.Str×PySem.Str×Int)
abbrev Z8:=List (PySem.Addr×PySem.Obj)
abbrev Z9:=PySem.Str->Option PySem.Value
open Sum (inr)
open Nat (beq ble)
open Or (inl)
abbrev Y1:=@PySem.F.plainAttrs_list
abbrev Y2:=@PySem.F.slot_list_append
abbrev Y3:=@PySem.F.type_list_append
abbrev Y4:=@PySem.F.plainAttrs_str
abbrev Y5:=@Option.some.inj
open PyProof.Rows (envOfC)
open PySem.W (mg_none_of)
abbrev Y20:=@if_neg
abbrev Y21:=@absurd
abbrev Y22:=@if_pos
abbrev Y23:=@PySem.wpAny_field
abbrev Y24:=@PySem.wpAny_setField_rec
abbrev Y25:=@PySem.wpAny_call_entry
abbrev Y26:=@PySem.wpAny_newObj_type
abbrev Y27:=@PySem.wpAny_loadPart_at
abbrev Y28:=@PySem.codeAny_builtin
abbrev Y29:=@PySem.wpAny_mono
abbrev Y30:=@PySem.wpAny_holding
abbrev Y31:=@PySem.wpAny_truthy_bool
abbrev Y32:=@PySem.wpAny_of_eq
abbrev Y33:=@PySem.PassesOwn.never
abbrev Y35:=@PySem.Around.under_plainId
abbrev Y36:=@PySem.F.slot_enumerate_next
abbrev Y37:=@Sum.inr.inj
abbrev Y38:=@PyProof.Rows.callWith_type1
abbrev Y39:=@PySem.Calls.callWith_builtin
abbrev Y40:=@PySem.wpAny_typeOf
abbrev Y41:=@PySem.wpAny_Call_Name_kw
abbrev Y42:=@PySem.Obj.data_mapFields
abbrev Y43:=@PySem.codeAny_call_builtin
abbrev Y44:=@PyProof.Rows.slot_tuple_getitem
abbrev Y45:=@PySem.F.args_enumerate_next_1
abbrev Y46:=@PySem.wpAny_typeNameOfWhole_keyiter
abbrev Y47:=@PySem.F.entry_enumerate_next
abbrev Y48:=@PySem.F.slot_dict_keyiterator_next
abbrev Y49:=@PySem.codeAny_mono
abbrev Y50:=@PySem.call_meetsIn
abbrev Y51:=@PySem.wpAny_pyIter_list
abbrev Y52:=@PySem.F.slot_tuple_iterator_next
abbrev Y53:=@PySem.wpAny_setField
abbrev Y54:=@PySem.wpAny_typeNameOf_keyiter
abbrev Y55:=@PySem.wpAny_attempt
abbrev Y56:=@PySem.tupleKind_room_in1
abbrev Y57:=@PySem.Calls.spliced_cons
abbrev Y58:=@PySem.wpAny_rule
abbrev Y59:=@PySem.wpAny_notOrdered_dict
abbrev Y60:=@PySem.builtinLookup_eq_fast
abbrev Y61:=@PySem.Obj.isFreed_of_fields
abbrev Y62:=@PySem.wpAny_standAt
abbrev Y63:=@PySem.call_meets
abbrev Y64:=@PySem.wpAny_specialOf
abbrev Y65:=@PySem.wpAny_passesOwn
abbrev Y66:=@PySem.wpAny_execs_nil
abbrev Y67:=@PySem.Heap.SameBut.update
abbrev Y68:=@PySem.F.plain_extend_loop
abbrev Y69:=@of_decide_eq_false
local macro_rules|`(tactic|exists $a,*)=>`(tactic|refine⟨$a,*⟩)
theorem Om{p:Prop}(h:p:=by lia):p:=h
theorem Dc{p:Prop}(h:p:=by decide):p:=h
theorem Z2{x:PySem.Str}:[x].Nodup:=.cons (fun _ h=>nomatch h) .nil
theorem Sn{p:Prop}(a b:PySem.Str)(e:(¬a=b)=p:=by exact rfl)(h:¬a=b:=by decide +kernel):p:=e.mp h
theorem Z0{n:Int}(h:0<n:=by decide +kernel):0<n:=h
theorem Z6{a b c l:Nat}(n:Nat)(h:a+b+c<l)(d:n<=b+c:=by decide):a+n<l:=by lia
theorem Dk{p:Prop}(h:p:=by decide +kernel):p:=h
theorem J1 (h:True:=by rfl):True:=h
theorem J2 (h:True:=by decide):True:=h
theorem J3 (h:True:=by first | exact .inl rfl | exact .inr rfl | assumption):True:=h
theorem J7 (h:True:=by exact fun _ _ _ _ _ _=>by first|exact L2.bind1 fun _=>rfl|exact L2.Ji fun _ _=>rfl|exact L2.Wh fun _ _ _=>rfl|exact L2.Qsn fun _ _ _ _=>rfl|exact L2.bind5 fun _ _ _ _ _=>rfl|exact Nb.bind6 fun _ _ _ _ _ _=>rfl):True:=h
theorem J8 (h:True:=by intro v _ _ _ h;first|(cases h;exact congrArg _ ‹v=_›)|((repeat obtain⟨_,h⟩:=h);first|exact congrArg _ ‹v=_›|rfl)):True:=h
theorem J4 (h:True:=by intro _;rfl):True:=h
local macro_rules|`(term|qa $s)=>`(term|($s).heap.objs.size)
local macro_rules|`(term|qd $x $a*)=>`(term|PySem.wpAny (PySem.model ($x).prog ($x).w) $a*)
local macro_rules|`(term|qe $x $y $a*)=>`(term|PySem.wpAny (PySem.model $x $y) $a*)
local macro_rules|`(term|qf $a*)=>`(term|PySem.StrLaws.sliceText $a*)
local macro_rules|`(term|qg $a*)=>`(term|List.replicate $a*)
local macro_rules|`(term|qh $x $a*)=>`(term|($x).env.scope.names.lookup $a*)
local macro_rules|`(term|qb $t)=>`(term|autoParam $t J1._auto_1)
local macro_rules|`(term|qc $t)=>`(term|autoParam $t J2._auto_1)
namespace L2
open PySem PySem.Spec PyProof.Rows
abbrev Key:=Sum Int Str
def Qhd:Key->Value->Bool
 |.inl k,v=>Value.isInt k v
 |.inr x,v=>Value.isStrOf x v
def keyH(w:World):Key->Int
 |.inl k=>hashInt k
 |.inr x=>hashStr w x
theorem Yi:∀{k:Key} {v:Value},Qhd k v=true->(∃i t,k=Sum.inl i/\v=Value.int i t)\/(∃x t,k=inr x/\v=Value.str x t)
 |.inl i,v,h=>by
  obtain⟨t,e⟩:=Value.isInt_shape (k:=i) (v:=v) h
  exact .inl ⟨i,t,rfl,e⟩
 |.inr x,v,h=>by
  obtain⟨t,e⟩:=Value.isStrOf_shape (x:=x) (v:=v) h
  exact .inr ⟨x,t,rfl,e⟩
theorem Qmk(i:Int)(t:Tok):Qhd (.inl i) (.int i t)=true:=by simp[Qhd,Value.isInt]
theorem Qml(x:Str)(t:Tok):Qhd (.inr x) (.str x t)=true:=by simp[Qhd,Value.isStrOf]
theorem key_ll(a b:Int):decide ((Sum.inl a:Key)=Sum.inl b)=(a == b):=by
 by_cases e:a=b
 .subst e;simp
 .have h:¬(Sum.inl a:Key)=Sum.inl b:=fun q=>e (Sum.inl.inj q)
  rw[xK h]
  exact(beq_eq_false_iff_ne.mpr e).symm
theorem key_rr(a b:Str):decide ((inr a:Key)=inr b)=decide (a=b):=by
 by_cases e:a=b
 .subst e;simp
 .have h:¬(inr a:Key)=inr b:=fun q=>e (Y37 q)
  rw[xK h,xK e]
theorem key_lr(a:Int)(b:Str):decide ((Sum.inl a:Key)=inr b)=false:=xK (fun q=>nomatch q)
theorem key_rl(a:Str)(b:Int):decide ((inr a:Key)=Sum.inl b)=false:=xK (fun q=>nomatch q)
def Xm(prog:Program)(w:World):PySem.KeyKind prog w Key where
 is:=Qhd
 hash:=keyH w
 inj:=fun v a b ha hb=>by
  rcases Yi ha with⟨i,t,rfl,rfl⟩ | ⟨x,t,rfl,rfl⟩
  .rcases Yi hb with⟨j,u,rfl,e⟩ | ⟨y,u,rfl,e⟩
   .injection e with e1 _;rw[e1]
   .exact nomatch e
  .rcases Yi hb with⟨j,u,rfl,e⟩ | ⟨y,u,rfl,e⟩
   .exact nomatch e
   .injection e with e1 _;rw[e1]
 byValue:=fun k v h=>by
  rcases Yi h with⟨i,t,rfl,rfl⟩ | ⟨x,t,rfl,rfl⟩<;>rfl
 pyHash:=fun hv h=>by
  rcases Yi hv with⟨i,t,rfl,rfl⟩ | ⟨x,t,rfl,rfl⟩
  .exact wpAny_pyHash_int h
  .exact wpAny_pyHash_str h
 eqBool:=fun hu hv h=>by
  rcases Yi hu with⟨i,t,rfl,rfl⟩ | ⟨x,t,rfl,rfl⟩
  .rcases Yi hv with⟨j,u,rfl,rfl⟩ | ⟨y,u,rfl,rfl⟩
   .rw[key_ll]at h;exact wpAny_eqBool_int h
   .rw[key_lr]at h;exact SeqAt.EqAt.int_str i t y u _ _ _ _ h
  .rcases Yi hv with⟨j,u,rfl,rfl⟩ | ⟨y,u,rfl,rfl⟩
   .rw[key_rl]at h;exact SeqAt.EqAt.str_int x t j u _ _ _ _ h
   .rw[key_rr]at h;exact wpAny_eqBool_str h
 «strs»:=fun k x t v h=>by
  rcases Yi h with⟨i,u,rfl,e⟩ | ⟨y,u,rfl,e⟩
  .exact nomatch e
  .injection e with e1 _
   subst e1
   cases v<;>rfl
theorem Qkz(prog:Program)(w:World)(k:Key)(v:Value):(Xm prog w).is k v=Qhd k v:=rfl
theorem Qhe(prog:Program)(w:World)(i:Int)(t:Tok):(Xm prog w).is (.inl i) (.int i t)=true:=Qmk i t
theorem Qhf(prog:Program)(w:World)(x:Str)(t:Tok):(Xm prog w).is (.inr x) (.str x t)=true:=Qml x t
inductive V where
 |non | bl (b:Bool) | int (i:Int) | str (x:Str) | byt (b:Array UInt8) | flt (b:UInt64) | ref (a:Addr) | ty (n:String)
 deriving DecidableEq
def RelV:V->Value->Prop
 |.non,u=>u=Value.none
 |.bl b,u=>u=Value.bool b
 |.int i,u=>∃t,u=Value.int i t
 |.str x,u=>∃t,u=Value.str x t
 |.byt b,u=>∃t,u=Value.bytes b t
 |.flt b,u=>∃t,u=Value.float b t
 |.ref a,u=>u=Value.ref a
 |.ty n,u=>u=Value.type n
abbrev Vals:List V->List Value->Prop:=Paired RelV
theorem Vals.length{xs:List V}{us:List Value}(r:Vals xs us):xs.length=us.length:=Paired.length r
theorem Vals.get:∀{xs:List V} {us:List Value} {i:Nat} {x:V},Vals xs us->xs[i]?=some x->∃u,us[i]?=some u/\RelV x u
 |_,_,_,_,.nil,e=>by simp at e
 |_,_,0,_,.cons r _,e=>by simp at e;subst e;exists _,rfl,r
 |_,_,i+1,x,.cons _ t,e=>by
  obtain⟨u,b,a⟩:=Vals.get (i:=i) (x:=x) t (by simpa using e)
  exists u,by simpa using b,a
theorem Vals.set{x:V}{u:Value}(r:RelV x u):∀{xs:List V} {us:List Value} (i:Nat),Vals xs us->Vals (xs.set i x) (us.set i u)
 |_,_,_,.nil=>.nil
 |_,_,0,.cons _ t=>.cons r t
 |_,_,i+1,.cons q t=>.cons q (Vals.set r i t)
theorem Vals.append{xs ys:List V}{us ws:List Value}(h:Vals xs us)(g:Vals ys ws):Vals (xs++ys) (us++ws):=by
 induction h with
 |nil=>exact g
 |cons r t ih=>exact .cons r ih
theorem Vals.take:∀{xs:List V} {us:List Value} (n:Nat),Vals xs us->Vals (xs.take n) (us.take n)
 |_,_,0,_=>.nil
 |_,_,_+1,.nil=>.nil
 |_,_,n+1,.cons r t=>.cons r (Vals.take n t)
theorem Vals.drop:∀{xs:List V} {us:List Value} (n:Nat),Vals xs us->Vals (xs.drop n) (us.drop n)
 |_,_,0,r=>r
 |_,_,_+1,.nil=>.nil
 |_,_,n+1,.cons _ t=>Vals.drop n t
def RelO:Option V->Option Value->Prop
 |some v,some u=>RelV v u
 |none,none=>True
 |_,_=>False
def KV{κ:Type}:List (κ×V)->List (κ×Value)->Prop:=Paired fun(p:κ×V) (q:κ×Value)=>p.1=q.1/\RelV p.2 q.2
def kV:Key->V
 |.inl i=>.int i
 |.inr x=>.str x
inductive HO where
 |lst (xs:List V)
 |tup (xs:List V)
 |dK (kvs:List (Key×V)) | dT (kvs:List (List Key×V))
 |set (S:Int->Bool) (n:Nat)
 |ins (C dx:Addr) (fs:List (Str×V))
 |own (x:Addr)
 |xd (fs:List (Str×V))
 |met (f x:Addr)
 |rng (lo hi:Int)
 |frz (o:Obj) (u:HO)
 |tbl (ps:Array Value)
 |ext (φ:Heap->Prop)
abbrev Hp:=Addr->Option HO
def upd(H:Hp)(a:Addr)(o:HO):Hp:=fun b=>if b=a then some o else H b
theorem Qc{H:Hp}{a:Addr}{o:HO}:upd H a o a=some o:=by unfold upd;rw[Y22 rfl]
theorem Qj{H:Hp}{a b:Addr}{o:HO}(h:b≠a):upd H a o b=H b:=by unfold upd;rw[Y20 h]
theorem Qhg{H:Hp}{a:Addr}{o u:HO}:upd (upd H a o) a u=upd H a u:=by
 funext b;unfold upd;split<;>rfl
theorem Ym{H:Hp}{a b:Addr}{o u:HO}(h:H a=some o)(h':H b=some u)(d:o≠u):a≠b:=by
 intro e;subst e;rw[h]at h';exact d (Y5 h')
theorem Qm{H:Hp}{a b:Addr}{o:HO}(h:H a=some o)(h':H b=none):a≠b:=by
 intro e;subst e;rw[h]at h';cases h'
section
variable(P:Program)(w:World)
def ObjOk(H:Hp)(h:Heap)(a:Addr):HO->Prop
 |.lst xs=>xs.length<=sizeLine/\∃(its:List Value) (n:Nat),Vals xs its/\h.get? a=some { cls:=.type "list",data:=.seq its.toArray n }
 |.tup xs=>xs.length<=sizeLine/\∃its:List Value,Vals xs its/\IsTup h a its.toArray
 |.dK kvs=>kvs.length<=sizeLine/\(a == sysModules)=false/\∃vs,KV kvs vs/\h.DictOf (Xm P w) a vs
 |.dT kvs=>kvs.length<=sizeLine/\(a == sysModules)=false/\∃xs:List (List Key×Addr×Value),
   Paired (fun(p:List Key×V) (q:List Key×Addr×Value)=>p.1=q.1/\H q.2.1=some (.tup (p.1.map kV))/\RelV p.2 q.2.2) kvs xs /\
   ∃o es ep,h.get? a=some o/\o.ExactDict/\o.data=.dict es ep/\es.toList=xs.map (entryOfKey (tupleKind (Xm P w)))/\(xs.map (·.1)).Nodup
 |.set S n=>h.SetOf (intKind P w) a S n
 |.ins C dx fs=>H dx=some (.own a)/\fs.length<=1000/\dx≠a/\h.get? a=some (PySem.W.instObj C dx) /\
   ∃mA,h.Ns1 dx mA/\(∀f,RelO (fs.lookup f) (mA f))/\PySem.Within mA (fs.map (·.1))
 |.own _=>∃o,h.get? a=some o
 |.xd fs=>∃mA,h.Ns1 a mA/\∀f,RelO (fs.lookup f) (mA f)
 |.rng lo hi=>∃t u v,h.get? a=some { cls:=.type "range",data:=.fields #[.int lo t,.int hi u,.int 1 v] }
 |.frz o u=>h.get? a=some o/\ObjOk H h a u
 |.tbl ps=>h.get? a=some { cls:=.none,data:=.fields ps }
 |.met f x=>h.get? a=some (PySem.W.methodObj (.ref f) (.ref x))
 |.ext φ=>φ h/\(∃o,h.get? a=some o)/\∀h1 h2:Heap,φ h1->(∀o,h1.get? a=some o->h2.get? a=some o)->φ h2
def HOk(H:Hp)(h:Heap):Prop:=∀a o,H a=some o->ObjOk P w H h a o
end
section
variable{P:Program}{w:World}{H H':Hp}{h h':Heap}{a:Addr}{o:HO}
theorem ObjOk.lt(x:ObjOk P w H h a o):a<h.objs.size:=by
 cases o with
 |lst xs=>obtain⟨_,_,_,_,e⟩:=x;exact zQ e
 |tup xs=>obtain⟨_,_,_,p⟩:=x;exact p.lt
 |dK kvs=>obtain⟨_,_,_,_,o,_,_,e,_⟩:=x;exact zQ e
 |dT kvs=>obtain⟨_,_,_,_,o,_,_,e,_⟩:=x;exact zQ e
 |set S n=>obtain⟨o,_,_,_,e,_⟩:=x;exact zQ e
 |ins C dx fs=>obtain⟨_,_,_,e,_⟩:=x;exact zQ e
 |own y=>obtain⟨_,e⟩:=x;exact zQ e
 |xd fs=>obtain⟨_,⟨_,_,_,e,_⟩,_⟩:=x;exact zQ e
 |rng lo hi=>obtain⟨_,_,_,e⟩:=x;exact zQ e
 |frz ob u=>obtain⟨e,_⟩:=x;exact zQ e
 |tbl ps=>exact zQ (show h.get? a=some _ from x)
 |met f y=>exact zQ (show h.get? a=some _ from x)
 |ext φ=>obtain⟨_,⟨_,e⟩,_⟩:=x;exact zQ e
theorem Paired.mapP{α β:Type}{F G:α->β->Prop}{l₁:List α}{l₂:List β}(h:Paired F l₁ l₂)(f:∀a b,F a b->G a b):Paired G l₁ l₂:=by
 induction h with
 |nil=>exact .nil
 |cons r t ih=>exact .cons (f _ _ r) ih
theorem ObjOk.stay(x:ObjOk P w H h a o)(k:∀b u,(b=a\/H b=some (.own a))->h.get? b=some u->h'.get? b=some u)
  (F:∀b,H b=some (.own a)->H' b=some (.own a)) (E:∀b xs,H b=some (.tup xs)->H' b=some (.tup xs)):ObjOk P w H' h' a o:=by
 induction o with
 |lst xs=>obtain⟨z,l,n,r,e⟩:=x;exists z,l,n,r,k _ _ (.inl rfl) e
 |tup xs=>obtain⟨z,l,r,g,e,c⟩:=x;exists z,l,r,g,k _ _ (.inl rfl) e,c
 |dK kvs=>obtain⟨z,y,B,r,g,j,i,e,c⟩:=x;exists z,y,B,r,g,j,i,k _ _ (.inl rfl) e,c
 |dT kvs=>
  obtain⟨z,y,xs,r,g,j,i,e,c⟩:=x
  exists z,y,xs,Paired.mapP r fun p q z=>⟨z.1,E _ _ z.2.1,z.2.2⟩,g,j,i,k _ _ (.inl rfl) e,c
 |set S n=>obtain⟨g,j,i,t,e,c⟩:=x;exists g,j,i,t,k _ _ (.inl rfl) e,c
 |ins C dx fs=>
  obtain⟨d,z,D,e,s,⟨m,j,i,G,c⟩,r⟩:=x
  exists F _ d,z,D,k _ _ (.inl rfl) e,s,⟨m,j,i,k _ _ (.inr d) G,c⟩,r
 |own y=>obtain⟨g,e⟩:=x;exists g,k _ _ (.inl rfl) e
 |xd fs=>obtain⟨s,⟨m,j,i,e,c⟩,r⟩:=x;exists s,⟨m,j,i,k _ _ (.inl rfl) e,c⟩,r
 |rng lo hi=>obtain⟨t,u,v,e⟩:=x;exists t,u,v,k _ _ (.inl rfl) e
 |frz g u ih=>obtain⟨e,q⟩:=x;exists k _ _ (.inl rfl) e,ih q
 |tbl ps=>
  have e:h.get? a=some { cls:=.none,data:=.fields ps }:=x
  show h'.get? a=some { cls:=.none,data:=.fields ps }
  exact k a _ (.inl rfl) e
 |met f y=>
  have e:h.get? a=some (PySem.W.methodObj (.ref f) (.ref y)):=x
  show h'.get? a=some (PySem.W.methodObj (.ref f) (.ref y))
  exact k a _ (.inl rfl) e
 |ext φ=>obtain⟨p,⟨o,e⟩,A⟩:=x;exists A _ _ p fun o q=>k _ _ (.inl rfl) q,⟨o,k _ _ (.inl rfl) e⟩,A
theorem HOk.lt(x:HOk P w H h)(e:H a=some o):a<h.objs.size:=(x a o e).lt
theorem HOk.fresh(x:HOk P w H h)(e:h.objs.size<=a):H a=none:=by
 cases q:H a with
 |none=>rfl
 |some u=>exact Y21 (xW (x.lt q) e) (jZd _)
theorem HOk.kept(x:HOk P w H h)(k:∀b u,h.get? b=some u->h'.get? b=some u):HOk P w H h':=fun a o e=>
 (x a o e).stay (fun b u _ q=>k b u q) (fun _ q=>q) fun _ _ q=>q
theorem HOk.laid(x:HOk P w H h)(k:∀b u,h.get? b=some u->h'.get? b=some u)(i:h.objs.size<=a)(d:ObjOk P w (upd H a o) h' a o):HOk P w (upd H a o) h':=fun b u e=>by
 have g:=x.fresh i
 by_cases f:b=a
 .subst f;rw[Qc]at e;cases e;exact d
 .rw[Qj f]at e
  exact(x b u e).stay (fun c v _ q=>k c v q) (fun c q=>by rw[Qj (Qm q g)];exact q) fun c j q=>by rw[Qj (Qm q g)];exact q
end
end L2
section
variable{p b a it dx C f CX d aN fE fM fU fL DX fX CB CN CS:PySem.Addr}{n c l m z b' e':Int}{xs ys vs zs:List L2.V}{us its its':List PySem.Value}{H H' H1 H0:L2.Hp}{o fo:PySem.Obj}{u doc pm cdv ct oc vl vu:PySem.Value}{P prog:PySem.Program}{w x v qual v' row:PySem.Str}{t' i j kk ep:Nat}{ch fp:List PySem.Addr}{e tg iter elt:PySem.Expr}{pins' pins:Z8}{N ns loose nm ws Ls:List PySem.Str}{M:PySem.Model}{A:PySem.Around}{E Q₁:VP}{s' s:PySem.Shared}{pos pos' px cpos tp:PySem.Pos}{Q:Option PySem.Value->PySem.Shared->Prop}{y:L2.V}{st:PySem.Stmt}{es ifs:List PySem.Expr}{K:Fg}{lo hi:Option Int}{tk tW:PySem.Tok}{mA mg fN:Z9}{expr f1:Bool}{R:PySem.Result->PySem.Shared->Prop}{kw:List (PySem.Str×PySem.Value)}{base h':PySem.Heap}{outer:List PySem.Env}{fd fdE fdM fdU fdL fdI fdX:PySem.FuncData}{scope:PySem.Scope}{an od:Option PySem.Addr}{osl sl:Array (Option PySem.Value)}{XP:Z9->PySem.Heap->Prop}{YP:PySem.World->PySem.Heap->Prop}{kvs:List (List L2.Key×L2.V)}{ks ls:List L2.Key}{cp:List (Option Nat)}{pl:Z7}{kss:List (List L2.Key)}{newId:String}
namespace L2
open PySem PySem.Spec PyProof.Rows
def Rd(H:Hp)(a:Addr)(u:HO):Prop:=H a=some u\/∃o,H a=some (.frz o u)
theorem Rd.ok{w:World}{h:Heap}{u:HO}(r:Rd H a u)(x:HOk P w H h):ObjOk P w H h a u:=by
 rcases r with r | ⟨o,r⟩
 .exact x a u r
 .obtain⟨_,q⟩:=x a _ r
  exact q
def Mut:Option HO->Prop
 |some (.lst _)=>True
 |some (.dK _)=>True
 |some (.dT _)=>True
 |some (.set _ _)=>True
 |some (.ins _ _ _)=>True
 |some (.ext _)=>True
 |_=>False
section
variable{w:World}{h:Heap}{x e:Addr}{o':HO}
theorem HOk.write(ok:HOk P w H h)(j:Mut (H x))(he:e=x\/H e=some (.own x))(k:∀b u,b≠e->h.get? b=some u->h'.get? b=some u)(l:∃u,h'.get? e=some u)
  (m:ObjOk P w (upd H x o') h' x o'):HOk P w (upd H x o') h':=fun b u q=>by
 have d:∀c y,H c=some (.own y)->c≠x:=fun c y r z=>by subst z;rw[r]at j;exact j
 have f:∀c g,H c=some (.tup g)->c≠x:=fun c g r z=>by subst z;rw[r]at j;exact j
 by_cases i:b=x
 .subst i;rw[Qc]at q;cases q;exact m
 .rw[Qj i]at q
  by_cases a:b=e
  .have n:H b=some (.own x):=by
    rcases he with z | z
    .exact Y21 (a.trans z) i
    .rw[a];exact z
   rw[q]at n;cases n
   obtain⟨v,p⟩:=l
   exists v,by rw[a];exact p
  .refine(ok b u q).stay (fun c v hc r=>k c v ?_ r) (fun c r=>by rw[Qj (d c b r)];exact r) fun c g r=>by rw[Qj (f c g r)];exact r
   rcases hc with rfl | hc
   .exact a
   .rintro rfl
    rcases he with z | z
    .exact d c b hc z
    .rw[hc]at z;cases z;exact i rfl
end
structure Un(fs ex:List Addr)(H H':Hp)(h h':Heap):Prop where
 keep:∀b o,h.get? b=some o->H b=none->b∉fs->b∉ex->h'.get? b=some o
 slot:∀b o,h.get? b=some o->H b=none->b∈fs->b∉ex->∃sl,h'.get? b=some { o with slots:=sl }
 free:∀b o,h.get? b=some o->H b=none->b∉ex->H' b=none
 there:∀b o,h.get? b=some o->b∉ex->∃o',h'.get? b=some o'
 tups:∀b xs,H b=some (.tup xs)->H' b=some (.tup xs)
 frzs:∀b o u,H b=some (.frz o u)->H' b=some (.frz o u)
 tbls:∀b ps,H b=some (.tbl ps)->∃more,H' b=some (.tbl (ps++more))
section
variable{fs ex:List Addr}{h h1:Heap}{x e:Addr}{o:HO}
theorem Un.any(u:Un fs ex H H1 h h1){ob:Obj}(q:h.get? b=some ob)(n:H b=none)(c:b∉ex):∃sl,h1.get? b=some { ob with slots:=sl }:=by
 by_cases a:b∈fs
 .exact u.slot b ob q n a c
 .exact⟨ob.slots,u.keep b ob q n a c⟩
theorem Un.kept(k:∀b u,h.get? b=some u->h'.get? b=some u):Un fs ex H H h h' :=
 ⟨fun b a q _ _ _=>k b a q,fun b a q _ _ _=>⟨a.slots,k b a q⟩,fun _ _ _ n _=>n,fun b a q _=>⟨a,k b a q⟩,fun _ _ q=>q,fun _ _ _ q=>q,fun _ ps q=>⟨#[],by rw[q];simp⟩⟩
theorem Un.refl:Un fs ex H H h h:=Un.kept fun _ _ q=>q
theorem Un.laid(k:∀b u,h.get? b=some u->h'.get? b=some u)(e:h.objs.size<=a)(c:H a=none):Un fs ex H (upd H a o) h h' where
 keep:=fun b u q _ _ _=>k b u q
 slot:=fun b u q _ _ _=>⟨u.slots,k b u q⟩
 free:=fun b u q n _=>by rw[Qj (xZ (xW (zQ q) e))];exact n
 there:=fun b u q _=>⟨u,k b u q⟩
 tups:=fun b d q=>by rw[Qj (Qm q c)];exact q
 frzs:=fun b u d q=>by rw[Qj (Qm q c)];exact q
 tbls:=fun b ps q=>⟨#[],by rw[Qj (Qm q c),q];simp⟩
theorem Un.write(c:Mut (H x))(he:e=x\/H e=some (.own x))(k:∀b u,b≠e->h.get? b=some u->h'.get? b=some u)(d:∃u,h'.get? e=some u):Un fs ex H (upd H x o) h h':=by
 have i:∀b,H b=none->b≠x:=fun b n z=>by subst z;rw[n]at c;exact c
 have g:∀b,H b=none->b≠e:=fun b n z=>by
  subst z
  rcases he with r | r
  .exact i b n r
  .rw[n]at r;cases r
 have f:∀b u,H b=some u->¬Mut (some u)->b≠x:=fun b u q l z=>by subst z;rw[q]at c;exact l c
 refine⟨fun b u q n _ _=>k b u (g b n) q,fun b u q n _ _=>⟨u.slots,k b u (g b n) q⟩,fun b u q n _=>by rw[Qj (i b n)];exact n,fun b u q _=>?_,
  fun b j q=>by rw[Qj (f b _ q fun z=>z)];exact q,fun b u j q=>by rw[Qj (f b _ q fun z=>z)];exact q,fun b ps q=>⟨#[],by rw[Qj (f b _ q fun z=>z),q];simp⟩⟩
 by_cases a:b=e
 .subst a;exact d
 .exact⟨u,k b u a q⟩
end
def trk(h:Heap)(H:Hp):List Addr:=(List.range h.objs.size).filter fun a=>(H a).isSome
def hidT(h:Heap)(H:Hp):Heap:=PySem.W.hideAll h (trk h H)
theorem Qmm(h:Heap)(H:Hp):(hidT h H).objs.size=h.objs.size:=PySem.W.hideAll_size _ _
theorem Qrk{h:Heap}(e:h.get? b=some o)(n:H b=none):(hidT h H).get? b=some o :=
 PySem.W.hideAll_get _ e fun a=>by
  have q:(H b).isSome=true:=(zV.mp a).2
  rw[n]at q;simp at q
theorem Qvz{h:Heap}(e:(hidT h H).get? b=some o):h.get? b=some o/\H b=none:=by
 have a:h.get? b=some o:=PySem.W.of_hideAll (trk h H) e
 exists a,?_
 cases q:H b with
 |none=>rfl
 |some x=>
  have c:b∈trk h H:=zV.mpr ⟨kKa.mpr (zQ a),by simp[q]⟩
  have z:(hidT h H).get? b=none:=PySem.W.hideAll_none (trk h H) c
  rw[z]at e;cases e
structure Mod(K:Fg)(mg:Z9)(base:Heap):Prop where
 kin:K.In base
 glob:base.Ns mainGlobals mg
 blt:∃mb,base.Ns builtinsNs mb/\∀x:Str,x≠"__name__"->mb x=bootBuiltins x
 nolimit:base.NoLimit
set_option genInjectivity false in
set_option genInjectivity false in
structure Cx where
 prog:Program
 w:World
 K:Fg
 mg:Z9
 base:Heap
 A:Around
 N:List Str
 s₀:Shared
 H₀:Hp
 env:Env
 outer:List Env
 stack:List Env
 ex:List Addr
 fn:Str->Bool
 calm:Bool
 pn:Z8
 xe:VP
def frs(l:List Env):List Addr:=l.filterMap (·.frame)
abbrev Cx.fs(X:Cx):List Addr:=frs X.outer
def Vis(sc:Scope)(x:Str):Prop:=sc.names.lookup x=some .local\/sc.names.lookup x=some .cell\/sc.names.lookup x=some .free
def Loc(sc:Scope)(x:Str):Prop:=sc.names.lookup x=some .local\/sc.names.lookup x=some .cell
def Look(env:Env)(h:Heap)(m:Z9)(x:Str)(u:Value):Prop :=
 (env.kindOf x=some .local/\m x=some u)\/((env.kindOf x=some .cell\/env.kindOf x=some .free)/\∃c,env.cells.lookup x=some c/\h.IsCell c (some u))
structure Cx.Ok(X:Cx):Prop where
 mod:Mod X.K X.mg X.base
 kind:X.env.scope.kind=.function
 glob:X.env.globals=mainGlobals
 blt:X.env.builtins=builtinsNs
 above:X.s₀.heap.objs.size<=X.env.locals
 inj:∀x y c,X.env.cells.lookup x=some c->X.env.cells.lookup y=some c->x=y
 has:∀x,(X.env.kindOf x=some .cell\/X.env.kindOf x=some .free)->∃c,X.env.cells.lookup x=some c
 cab:∀x c,X.fn x=true->X.env.cells.lookup x=some c->X.s₀.heap.objs.size<=c
 hd:X.calm=true->X.A.handled=none
 frames:X.A.frames=some X.stack
 stk:X.stack=X.outer\/(X.stack=X.env::X.outer/\X.env.frame=some X.env.locals)
 exf:∀b∈X.ex,b≠X.env.locals/\∀x c,X.env.cells.lookup x=some c->c≠b
 bs:∀b o,X.base.get? b=some o->X.s₀.heap.get? b=some o/\X.H₀ b=none
 bsz:X.base.objs.size<=X.s₀.heap.objs.size
 noex:∀b o,X.base.get? b=some o->b∉X.ex
 exfs:∀b∈X.ex,b∉X.fs
 funs:X.s₀.heap.FunFrames X.base X.outer
 frf:∀b∈X.fs,X.H₀ b=none
structure Inv(X:Cx)(pins:Z8)(σ:List (Option V))(H:Hp)(s:Shared):Prop where
 ok:X.Ok
 os:s.os=X.s₀.os
 bare:AllBare s.gens
 base:Un X.fs X.ex X.H₀ H X.s₀.heap s.heap
 loc:∃m,s.heap.Ns X.env.locals m/\∀(i:Nat) (x:Str) (v:V),X.N[i]?=some x->σ[i]?=some (some v)->Vis X.env.scope x->∃u,RelV v u/\Look X.env s.heap m x u
 cell:∀x c,X.env.cells.lookup x=some c->∃v,s.heap.IsCell c v
 free:H X.env.locals=none
 freeC:∀x c,X.env.cells.lookup x=some c->H c=none
 pin:∀p∈X.pn++pins,s.heap.get? p.1=some p.2/\H p.1=none/\p.1≠X.env.locals/\p.1∉X.fs/\∀v,p.2.data≠.cell v
 hok:HOk X.prog X.w H s.heap
 len:σ.length=X.N.length
section
variable{X:Cx}{σ:List (Option V)}
theorem Cx.Ok.nofr(ok:X.Ok)(e:X.base.get? b=some o):b∉X.fs:=fun a=>by
 have:=(ok.funs.mem a).1
 rw[e]at this;cases this
theorem Inv.bs(I:Inv X pins σ H s):∀b o,X.base.get? b=some o->s.heap.get? b=some o/\H b=none:=fun b o e=>
 ⟨I.base.keep b o (I.ok.bs b o e).1 (I.ok.bs b o e).2 (I.ok.nofr e) (I.ok.noex b o e),I.base.free b o (I.ok.bs b o e).1 (I.ok.bs b o e).2 (I.ok.noex b o e)⟩
theorem Inv.bk(I:Inv X pins σ H s):∀b o,X.base.get? b=some o->s.heap.get? b=some o:=fun b o e=>(I.bs b o e).1
theorem Inv.mod(I:Inv X pins σ H s):Mod X.K X.mg X.base:=I.ok.mod
theorem Inv.kIn(I:Inv X pins σ H s):X.K.In s.heap:=I.ok.mod.kin.keeps I.bk
theorem Inv.lt(I:Inv X pins σ H s):X.env.locals<(qa s):=by obtain⟨_,a,_⟩:=I.loc;exact a.lt
theorem Inv.sz(I:Inv X pins σ H s):X.s₀.heap.objs.size<=(qa s):=wZ I.ok.above (Nat.le_of_lt I.lt)
theorem Inv.nofs(I:Inv X pins σ H s)(h:(qa s)<=a):a∉X.fs:=fun b=>by
 obtain⟨_,o,c,_⟩:=I.ok.funs.mem b
 exact Y21 (xW (zQ c) (wZ I.sz h)) (jZd _)
theorem Inv.cne(I:Inv X pins σ H s):∀x c,X.env.cells.lookup x=some c->c≠X.env.locals:=fun x c e z=>by
 obtain⟨v,o,f,d⟩:=I.cell x c e
 obtain⟨m,⟨i,h,g,b,a,_⟩,_⟩:=I.loc
 rw[z,b]at f;cases f;rw[a]at d;cases d
theorem Inv.funs(I:Inv X pins σ H s):s.heap.FunFrames X.base X.outer:=by
 have all:∀(l:List Env),(∀b∈frs l,b∈X.fs)->X.s₀.heap.FunFrames X.base l->s.heap.FunFrames X.base l:=by
  intro l
  induction l with
  |nil=>intro _ _;trivial
  |cons env r ih=>
   intro f k
   obtain⟨g,⟨L,o,d,m,j,i⟩,h⟩:=k
   have c:L∈X.fs:=f L (by unfold frs;rw[jQf,d];exact jY)
   obtain⟨n,e⟩:=I.base.slot L o j (I.ok.frf L c) c fun z=>I.ok.exfs L z c
   exists g,⟨L,_,d,m,e,i⟩,ih (fun b a=>f b (by unfold frs;rw[jQf,d];exact kJ _ a)) h
 exact all X.outer (fun _ a=>a) I.ok.funs
theorem Inv.stack(I:Inv X pins σ H s):s.heap.FunFrames X.base X.stack:=by
 rcases I.ok.stk with e | ⟨e,a⟩
 .rw[e];exact I.funs
 .rw[e]
  obtain⟨m,b,_⟩:=I.loc
  refine .cons (by rw[I.ok.kind];decide) a b ?_ I.funs
  exact yYc (wZ I.ok.bsz I.ok.above)
theorem Inv.stkSub(I:Inv X pins σ H s):∀b∈frs X.stack,b∈X.env.locals::X.fs:=fun b a=>by
 rcases I.ok.stk with e | ⟨e,c⟩
 .rw[e]at a;exact kJ _ a
 .rw[e]at a
  unfold frs at a
  rw[jQf,c]at a
  exact a
theorem Inv.stkFree(I:Inv X pins σ H s):∀b∈frs X.stack,H b=none:=fun b hb=>by
 rcases kK.mp (I.stkSub b hb)with e | hb
 .rw[e];exact I.free
 .obtain⟨_,o,a,_⟩:=I.ok.funs.mem hb
  exact I.base.free b o a (I.ok.frf b hb) fun z=>I.ok.exfs b z hb
theorem Inv.step{g':Array GenState}{d':Drawn}(I:Inv X pins σ H s)
  (f:∀b∈ch,(b∈X.ex\/X.s₀.heap.objs.size<=b)/\b≠X.env.locals/\(∀x c,X.env.cells.lookup x=some c->c≠b)/\∀p∈X.pn++pins,p.1≠b)
  (keep:∀b o,b≠X.env.locals->b∉X.fs->b∉ch->s.heap.get? b=some o->H b=none->h'.get? b=some o)
  (C:∀b o,b≠X.env.locals->b∈X.fs->b∉ch->s.heap.get? b=some o->H b=none->∃sl,h'.get? b=some { o with slots:=sl }) (free:∀b o,b∉ch->s.heap.get? b=some o->H b=none->H' b=none)
  (there:∀b o,b∉ch->s.heap.get? b=some o->∃o',h'.get? b=some o')
  (F:∀b xs,H b=some (.tup xs)->H' b=some (.tup xs)) (J:∀b o u,H b=some (.frz o u)->H' b=some (.frz o u)) (L:∀b ps,H b=some (.tbl ps)->∃more,H' b=some (.tbl (ps++more)))
  (ns:∀m,s.heap.Ns X.env.locals m->h'.Ns X.env.locals m) (O:HOk X.prog X.w H' h') (S:AllBare g') :
  Inv X pins σ H' { s with heap:=h',gens:=g',drawn:=d',toks:=t' }:=by
 have K:∀b o,X.s₀.heap.get? b=some o->b≠X.env.locals:=fun b o e=>xZ (xW (zQ e) I.ok.above)
 have B:∀b o,X.s₀.heap.get? b=some o->b∉X.ex->b∉ch:=fun b o e a D=>by
  rcases(f b D).1 with z | z
  .exact a z
  .exact Y21 (xW (zQ e) z) (jZd _)
 have y:∀x c,X.env.cells.lookup x=some c->∀v,s.heap.IsCell c v->h'.IsCell c v:=fun x c e v ⟨o,E,M⟩=>by
  have j:c∉ch:=fun z=>(f c z).2.2.1 x c e rfl
  by_cases Q:c∈X.fs
  .obtain⟨sl,q⟩:=C c o (I.cne x c e) Q j E (I.freeC x c e)
   exists _,q,M
  .exact⟨o,keep c o (I.cne x c e) Q j E (I.freeC x c e),M⟩
 exists I.ok,I.os,S,⟨fun b o e n D a=>?_,fun b o e n D a=>?_,fun b o e n a=>?_,fun b o e a=>?_,fun b xs e=>F b xs (I.base.tups b xs e),fun b o xs e=>J b o xs (I.base.frzs b o xs e),fun b ps e=>?_⟩,?_,fun x c e=>?_,?_,fun x c e=>?_,fun p R=>?_,O,I.len
 .exact keep b o (K b o e) D (B b o e a) (I.base.keep b o e n D a) (I.base.free b o e n a)
 .obtain⟨sl,A⟩:=I.base.slot b o e n D a
  obtain⟨N,G⟩:=C b _ (K b o e) D (B b o e a) A (I.base.free b o e n a)
  exists N,G
 .obtain⟨o',A⟩:=I.base.there b o e a
  exact free b o' (B b o e a) A (I.base.free b o e n a)
 .obtain⟨o',A⟩:=I.base.there b o e a
  exact there b o' (B b o e a) A
 .obtain⟨U,A⟩:=I.base.tbls b ps e
  obtain⟨W,G⟩:=L b _ A
  exists U++W,by rw[G,Array.append_assoc]
 .obtain⟨m,Y,T⟩:=I.loc
  exists m,ns m Y,fun i x v A G V=>?_
  obtain⟨u,r,l⟩:=T i x v A G V
  exists u,r,?_
  rcases l with l | ⟨k,c,e,z⟩
  .exact .inl l
  .exact .inr ⟨k,c,e,y x c e _ z⟩
 .obtain⟨v,z⟩:=I.cell x c e
  exists v,y x c e v z
 .obtain⟨m,⟨o,_,_,E,_⟩,_⟩:=I.loc
  exact free _ o (fun z=>(f _ z).2.1 rfl) E I.free
 .obtain⟨v,o,E,M⟩:=I.cell x c e
  exact free c o (fun z=>(f c z).2.2.1 x c e rfl) E (I.freeC x c e)
 .obtain⟨e,n,P,nf,d⟩:=I.pin p R
  have j:p.1∉ch:=fun z=>(f p.1 z).2.2.2 p R rfl
  exists keep p.1 p.2 P nf j e n,free p.1 p.2 j e n,P,nf,d
theorem Inv.un(I:Inv X pins σ H s)(u:Un X.fs [] H H' s.heap h')(j:HOk X.prog X.w H' h'):Inv X pins σ H' { s with heap:=h',toks:=t' }:=by
 obtain⟨m,⟨o,A,y,k,r⟩,_⟩:=id I.loc
 obtain⟨x,l⟩:=u.any k I.free (by simp)
 exact I.step (g':=s.gens) (d':=s.drawn) (ch:=[]) (fun _ z=>nomatch z) (fun b o _ f _ e n=>u.keep b o e n f (by simp)) (fun b o _ f _ e n=>u.slot b o e n f (by simp)) (fun b o _ e n=>u.free b o e n (by simp)) (fun b o _ e=>u.there b o e (by simp)) u.tups u.frzs u.tbls (fun v q=>by
  obtain⟨B,c,i,a,p⟩:=q
  rw[k]at a;cases a
  exists _,c,i,l,p) j I.bare
theorem Inv.call{g':Array GenState}{d':Drawn}(I:Inv X pins σ H s)(u:Un (frs X.stack) ch H H' s.heap h')(q:HOk X.prog X.w H' h')(B:AllBare g')
  (f:∀b∈ch,(b∈X.ex\/X.s₀.heap.objs.size<=b)/\b≠X.env.locals/\(∀x c,X.env.cells.lookup x=some c->c≠b)/\∀p∈X.pn++pins,p.1≠b) :
  Inv X pins σ H' { s with heap:=h',gens:=g',drawn:=d',toks:=t' }:=by
 obtain⟨m,⟨o,G,F,v,r⟩,_⟩:=id I.loc
 obtain⟨E,l⟩:=u.any v I.free fun z=>(f _ z).2.1 rfl
 exact I.step (ch:=ch) f (fun b o l y a e n=>u.keep b o e n (fun z=>(kK.mp (I.stkSub b z)).elim l y) a) (fun b o _ _ a e n=>u.any e n a) (fun b o a e n=>u.free b o e n a) (fun b o a e=>u.there b o e a) u.tups u.frzs u.tbls (fun D C=>by
  obtain⟨J,j,k,i,A⟩:=C
  rw[v]at i;cases i
  exists _,j,k,l,A) q B
theorem Inv.turned(I:Inv X pins σ H s)(k:∀b o,b≠it->s.heap.get? b=some o->h'.get? b=some o)(D:H it=none)(i:it≠X.env.locals)
  (B:it∈X.ex\/X.s₀.heap.objs.size<=it) (j:∀x c,X.env.cells.lookup x=some c->c≠it) (y:∀p∈X.pn++pins,p.1≠it):Inv X pins σ H { s with heap:=h',toks:=t' }:=by
 have f:∀b u,H b=some u->b≠it:=fun b u e z=>by rw[z,D]at e;cases e
 refine I.step (g':=s.gens) (d':=s.drawn) (ch:=[it]) (fun b l=>?_) (fun b o _ _ a e _=>k b o (fun z=>a (by simp[z])) e) (fun b o _ _ a e _=>⟨o.slots,k b o (fun z=>a (by simp[z])) e⟩) (fun _ _ _ _ n=>n)
  (fun b o a e=>⟨o,k b o (fun z=>a (by simp[z])) e⟩) (fun _ _ e=>e) (fun _ _ _ e=>e) (fun b ps e=>⟨#[],by rw[e];simp⟩) (fun m E=>?_) (fun b u e=>?_) I.bare
 .have e:b=it:=by simpa using l
  subst e
  exists B,i,j,y
 .obtain⟨o,C,w,A,r⟩:=E
  exists o,C,w,k _ o (Ne.symm i) A,r
 .refine(I.hok b u e).stay (fun c v a q=>k c v ?_ q) (fun _ q=>q) fun _ _ q=>q
  rcases a with z | z
  .rw[z];exact f b u e
  .exact f c _ z
theorem Inv.tok(I:Inv X pins σ H s)(t:Nat):Inv X pins σ H { s with toks:=t }:=I.un (h':=s.heap) (t':=t) Un.refl I.hok
theorem Inv.kept(I:Inv X pins σ H s)(k:∀b u,s.heap.get? b=some u->h'.get? b=some u):Inv X pins σ H { s with heap:=h',toks:=t' }:=I.un (Un.kept k) (I.hok.kept k)
theorem Inv.laid{o:HO}(I:Inv X pins σ H s)(k:∀b u,s.heap.get? b=some u->h'.get? b=some u)(d:(qa s)<=a)(c:ObjOk X.prog X.w (upd H a o) h' a o) :
  Inv X pins σ (upd H a o) { s with heap:=h',toks:=t' }:=I.un (Un.laid k d (I.hok.fresh d)) (I.hok.laid k d c)
theorem Inv.write{x e:Addr}{o:HO}(I:Inv X pins σ H s)(d:Mut (H x))(he:e=x\/H e=some (.own x))(k:∀b u,b≠e->s.heap.get? b=some u->h'.get? b=some u)(a:∃u,h'.get? e=some u)
  (c:ObjOk X.prog X.w (upd H x o) h' x o):Inv X pins σ (upd H x o) { s with heap:=h',toks:=t' }:=I.un (Un.write d he k a) (I.hok.write d he k a c)
theorem Inv.pins_of(I:Inv X pins σ H s)(h:∀p∈pins',s.heap.get? p.1=some p.2/\H p.1=none/\p.1≠X.env.locals/\p.1∉X.fs/\∀v,p.2.data≠.cell v):Inv X pins' σ H s :=
 ⟨I.ok,I.os,I.bare,I.base,I.loc,I.cell,I.free,I.freeC,fun p a=>(kW.mp a).elim (fun z=>I.pin p (zY _ z)) (h p),I.hok,I.len⟩
theorem Qdm(d:N.Nodup)(a:N[i]?=some x)(b:N[j]?=some x):i=j:=by
 obtain⟨g,c⟩:=jK.mp a
 obtain⟨f,e⟩:=jK.mp b
 exact(List.getElem_inj d).mp (c.trans e.symm)
theorem Qfb{v:V}{Q:Unit->Shared->Prop}(I:Inv X pins σ H s)(hN:X.N.Nodup)(P:X.N[i]?=some x)(t:Loc X.env.scope x)(r:RelV v u)
  (h:∀s',Inv X pins (σ.set i (some v)) H s'->(∃a,Heap.SameBut a s.heap s'.heap/\(a=X.env.locals\/X.env.cells.lookup x=some a))->Q () s') (hf:autoParam (X.fn x=true\/qh X x=some .local) J3._auto_1):wpAny M A (storeName X.env x u) Q E s:=by
 obtain⟨m,hn,hl⟩:=id I.loc
 have L:(X.env.scope.kind == .class||(X.env.scope.kind == .module&&X.env.locals != X.env.globals))=false:=by rw[I.ok.kind];rfl
 have D:i<σ.length:=by rw[I.len];exact(jK.mp P).1
 have cne:=I.cne
 have g:∀{a:Addr} {K:Heap},(∃o,s.heap.get? a=some o/\H a=none)->Heap.SameBut a s.heap K->HOk X.prog X.w H K:=fun{a K} ha f b ob e=>by
  obtain⟨_,_,B⟩:=ha
  refine(I.hok b ob e).stay (fun c W hc q=>(f.2 c ?_).trans q) (fun _ q=>q) fun _ _ q=>q
  rintro rfl
  rcases hc with rfl | hc
  .rw[B]at e;cases e
  .rw[B]at hc;cases hc
 rcases t with hk | hk
 .refine wpAny_storeName_local hk hn (fun K ab f=>?_) L
  obtain⟨oL,_,_,aa,_⟩:=id hn
  refine h _ ⟨I.ok,I.os,I.bare,⟨fun b o e n G t=>?_,fun b o e n G t=>?_,I.base.free,fun b o e t=>?_,I.base.tups,I.base.frzs,I.base.tbls⟩,⟨_,ab,fun j y v' l C e3=>?_⟩,fun y c e=>?_,I.free,I.freeC,fun p hp=>?_,g ⟨oL,aa,I.free⟩ f,by simpa using I.len⟩ ⟨_,f,.inl rfl⟩
  .exact(f.2 b (xZ (xW (zQ e) I.ok.above))).trans (I.base.keep b o e n G t)
  .obtain⟨sl,l⟩:=I.base.slot b o e n G t
   exists sl,(f.2 b (xZ (xW (zQ e) I.ok.above))).trans l
  .obtain⟨o',l⟩:=I.base.there b o e t
   exists o',(f.2 b (xZ (xW (zQ e) I.ok.above))).trans l
  .by_cases J:j=i
   .subst J
    rw[P]at l;cases l
    rw[jKf D]at C
    cases C
    exists u,r,.inl ⟨hk,by simp⟩
   .rw[yYd (Ne.symm J)]at C
    obtain⟨Z,r',q⟩:=hl j y v' l C e3
    exists Z,r',?_
    rcases q with⟨k,e⟩ | ⟨k,c,e,z⟩
    .refine .inl ⟨k,?_⟩
     have:y≠x:=fun e=>J (Qdm hN l (e▸P))
     simp[this,e]
    .exact .inr ⟨k,c,e,z.sameBut f (cne y c e)⟩
  .obtain⟨W,z⟩:=I.cell y c e
   exists W,z.sameBut f (cne y c e)
  .obtain⟨e,n,U,nf,d⟩:=I.pin p hp
   exists (f.2 p.1 U).trans e,n,U,nf,d
 .have F:X.fn x=true:=by
   rcases hf with z | z
   .exact z
   .rw[z]at hk;cases hk
  obtain⟨c,hc⟩:=I.ok.has x (.inl hk)
  obtain⟨W,z⟩:=I.cell x c hc
  refine wpAny_storeName_cell I.ok.kind hk hc z (fun K R f=>?_)
  obtain⟨oc,S,O⟩:=id z
  refine h { s with heap:=K } ⟨I.ok,I.os,I.bare,⟨fun b o e n G t=>?_,fun b o e n G t=>?_,I.base.free,fun b o e t=>?_,I.base.tups,I.base.frzs,I.base.tbls⟩,⟨m,hn.sameBut f (Ne.symm (cne x c hc)),fun j y v' l C e3=>?_⟩,fun y Y e=>?_,I.free,I.freeC,fun p hp=>?_,g ⟨oc,S,I.freeC x c hc⟩ f,by simpa using I.len⟩ ⟨c,f,.inr hc⟩
  .exact(f.2 b (xZ (xW (zQ e) (I.ok.cab x c F hc)))).trans (I.base.keep b o e n G t)
  .obtain⟨sl,l⟩:=I.base.slot b o e n G t
   exists sl,(f.2 b (xZ (xW (zQ e) (I.ok.cab x c F hc)))).trans l
  .obtain⟨o',l⟩:=I.base.there b o e t
   exists o',(f.2 b (xZ (xW (zQ e) (I.ok.cab x c F hc)))).trans l
  .by_cases J:j=i
   .subst J
    rw[P]at l;cases l
    rw[jKf D]at C
    cases C
    exists u,r,.inr ⟨.inl hk,c,hc,R⟩
   .rw[yYd (Ne.symm J)]at C
    obtain⟨Z,r',q⟩:=hl j y v' l C e3
    exists Z,r',?_
    rcases q with q | ⟨k,Y,e,z'⟩
    .exact .inl q
    .refine .inr ⟨k,Y,e,z'.sameBut f ?_⟩
     rintro rfl
     exact J (Qdm hN l (I.ok.inj _ _ _ e hc▸P))
  .by_cases T:Y=c
   .subst T;exists _,R
   .obtain⟨w2,z2⟩:=I.cell y Y e
    exists w2,z2.sameBut f T
  .obtain⟨e,n,U,nf,d⟩:=I.pin p hp
   exists (f.2 p.1 ?_).trans e,n,U,nf,d
   intro q
   rw[q,S]at e
   have q':oc=p.2:=Y5 e
   exact d W (by rw[<-q'];exact O)
theorem Vi{v:V}{Q:Unit->Shared->Prop}(I:Inv X pins σ H s)(b:X.N.Nodup)(e:X.N[i]?=some x)(d:Loc X.env.scope x)(r:RelV v u)
  (h:∀s',Inv X pins (σ.set i (some v)) H s'->Q () s') (c:autoParam (X.fn x=true\/qh X x=some .local) J3._auto_1):wpAny M A (storeName X.env x u) Q E s :=
 Qfb I b e d r (fun s' a _=>h s' a) c
theorem Inv.call'(I:Inv X pins σ H s)(j:s'.os=s.os)(u:Un (frs X.stack) ch H H' s.heap s'.heap)(f:HOk X.prog X.w H' s'.heap)(i:AllBare s'.gens)
  (a:∀b∈ch,(b∈X.ex\/X.s₀.heap.objs.size<=b)/\b≠X.env.locals/\(∀x c,X.env.cells.lookup x=some c->c≠b)/\∀p∈X.pn++pins,p.1≠b):Inv X pins σ H' s':=by
 obtain⟨l,g',d',t',k⟩:=s'
 have e:k=s.os:=j
 subst e
 exact I.call (g':=g') (t':=t') (d':=d') u f i a
end
abbrev XK:=Value->Option Addr->Hp->Prop
abbrev St:=List (Option V)
abbrev VK:=V->Hp->Prop
abbrev TE:=St->Hp->VK->Prop
abbrev TT:=St->Hp->(Bool->Hp->Prop)->Prop
abbrev TA:=St->Hp->(List V->Hp->Prop)->Prop
set_option genInjectivity false in
set_option genInjectivity false in
structure Ends where
 nx:St->Hp->Prop
 rt:VK
 bk:St->Hp->Prop:=fun _ _=>False
 ct:St->Hp->Prop:=fun _ _=>False
abbrev TS:=Ends->St->Hp->Prop
def EP(X:Cx)(pins:Z8)(σ:St)(Q:VK)(u:Value)(s':Shared):Prop:=∃v H',Inv X pins σ H' s'/\RelV v u/\Q v H'
def TP(X:Cx)(pins:Z8)(σ:St)(Q:Bool->Hp->Prop)(b:Bool)(s':Shared):Prop:=∃H',Inv X pins σ H' s'/\Q b H'
def AP(X:Cx)(pins:Z8)(σ:St)(Q:List V->Hp->Prop)(us:List Value)(s':Shared):Prop:=∃vs H',Inv X pins σ H' s'/\Vals vs us/\Q vs H'
def SP(X:Cx)(pins:Z8)(D:Ends)(f:Flow)(s':Shared):Prop :=
 match f with
 |.next=>∃σ' H',Inv X pins σ' H' s'/\D.nx σ' H'
 |.brk=>∃σ' H',Inv X pins σ' H' s'/\D.bk σ' H'
 |.cont=>∃σ' H',Inv X pins σ' H' s'/\D.ct σ' H'
 |.ret u=>∃v σ' H',Inv X pins σ' H' s'/\RelV v u/\D.rt v H'
def PE(X:Cx)(e:Expr)(t:TE):Prop :=
 ∀(pins:Z8) (s:Shared) (σ:St) (H:Hp) (Q:VK),Inv X pins σ H s->t σ H Q->qd X X.A (eval e X.env) (EP X pins σ Q) X.xe s
def PT(X:Cx)(e:Expr)(t:TT):Prop :=
 ∀(pins:Z8) (s:Shared) (σ:St) (H:Hp) (Q:Bool->Hp->Prop),Inv X pins σ H s->t σ H Q->qd X X.A (isTrue e X.env (eval e X.env)) (TP X pins σ Q) X.xe s
def PW(X:Cx)(e:Expr)(t:TT):Prop :=
 ∀(whole:Sem Value) (pins:Z8) (s:Shared) (σ:St) (H:Hp) (Q:Bool->Hp->Prop),Inv X pins σ H s->t σ H Q->qd X X.A (isTrue e X.env whole) (TP X pins σ Q) X.xe s
theorem PW.pt{X:Cx}{t:TT}(h:PW X e t):PT X e t:=h _
def PA(X:Cx)(es:List Expr)(t:TA):Prop :=
 ∀(pos:Pos) (pins:Z8) (s:Shared) (σ:St) (H:Hp) (Q:List V->Hp->Prop),Inv X pins σ H s->t σ H Q->qd X X.A (spliced (backTo pos (starEach es X.env))) (AP X pins σ Q) X.xe s
def PS(X:Cx)(st:Stmt)(t:TS):Prop :=
 ∀(pins:Z8) (s:Shared) (σ:St) (H:Hp) (D:Ends),Inv X pins σ H s->t D σ H->qd X X.A (exec st X.env) (SP X pins D) X.xe s
def PSs(X:Cx)(st:List Stmt)(t:TS):Prop :=
 ∀(pins:Z8) (s:Shared) (σ:St) (H:Hp) (D:Ends),Inv X pins σ H s->t D σ H->qd X X.A (execs st X.env) (SP X pins D) X.xe s
theorem thn{α:Type}{t:Sem α}{Q Q':α->Shared->Prop}(h:wpAny M A t Q E s)(b:∀a s,Q a s->Q' a s):wpAny M A t Q' E s:=Y29 h b fun _ _ x=>x
section
variable{X:Cx}
inductive tVar(i:Nat)(σ:St)(H:Hp)(Q:VK):Prop|mk(v:V)(h:σ[i]?=some (some v))(q:Q v H):tVar i σ H Q
def tC(v:V):TE:=fun _ H Q=>Q v H
theorem Qun(n:X.N[i]?=some x)(j:Vis X.env.scope x)(f:qc ((x == ("__debug__":Str))=false))(d:qc ((x == ("__classdict__":Str))=false)):PE X (.Name x pos) (tVar i):=by
 intro b s k H Q I h
 obtain⟨v,e,h⟩:=h
 obtain⟨m,p,o⟩:=I.loc
 obtain⟨u,r,l⟩:=o i x v n e j
 have fin:EP X b k Q u s:=⟨v,H,I,r,h⟩
 rcases l with⟨hk,q⟩ | ⟨hk,c,g,a⟩
 .exact wpAny_Name (wpAny_loadName_local I.ok.kind hk p q fin) f
 .rcases hk with hk | hk
  .exact wpAny_Name (wpAny_loadName_cell I.ok.kind hk g a fin) f
  .exact wpAny_Name (wpAny_loadName_free I.ok.kind hk g a fin d) f
theorem Qe{i j pos}:PE X (.Constant (.int i) j pos) (tC (.int i)):=fun _ _ _ H _ I h=>wpAny_Constant_int ⟨.int i,H,I.tok _,⟨_,rfl⟩,h⟩
theorem Qmn{b j pos}:PE X (.Constant (.bool b) j pos) (tC (.bl b)):=fun _ _ _ H _ I h=>Constant_bool ⟨.bl b,H,I,rfl,h⟩
theorem Jk{j pos}:PE X (.Constant .none j pos) (tC .non):=fun _ _ _ H _ I h=>Constant_none ⟨.non,H,I,rfl,h⟩
theorem Qq{x j pos}:PE X (.Constant (.str x) j pos) (tC (.str x)):=fun _ _ _ H _ I h=>Calls.Constant_str ⟨.str x,H,I.tok _,⟨_,rfl⟩,h⟩
def Gl(X:Cx)(x:Str):Prop:=X.env.kindOf x=some .globalImplicit
theorem Kw{σ:St}{Q:VP}(I:Inv X pins σ H s)(b:Gl X x)(c:X.mg x=some u)(h:Q u s)
  (a:qc ((x == ("__debug__":Str))=false)):qd X X.A (eval (.Name x pos) X.env) Q E s :=
 Calls.Name_function_global I.ok.kind b (Calls.loadGlobal_global (by rw[I.ok.glob];exact I.mod.glob.keeps I.bk) c h) a
theorem Kp{σ:St}{Q:VP}(I:Inv X pins σ H s)(c:Gl X x)(g:X.mg x=none)(d:bootBuiltins x=some u)(h:Q u s)
  (f:qc (x≠"__name__")) (b:qc ((x == ("__debug__":Str))=false)):qd X X.A (eval (.Name x pos) X.env) Q E s:=by
 obtain⟨i,e,a⟩:=I.mod.blt
 exact Calls.Name_function_global I.ok.kind c (Calls.loadGlobal_builtin (by rw[I.ok.glob];exact I.mod.glob.keeps I.bk) g (by rw[I.ok.blt];exact e.keeps I.bk) ((a x f).trans d) h) b
theorem Jf{v:V}(b:Gl X x)(c:X.mg x=some u)(r:RelV v u)(a:qc ((x == ("__debug__":Str))=false)):PE X (.Name x pos) (tC v) :=
 fun _ _ _ H _ I h=>Kw I b c ⟨v,H,I,r,h⟩ a
theorem Qwa{v:V}(b:Gl X x)(e:X.mg x=none)(c:bootBuiltins x=some u)(r:RelV v u)(d:qc (x≠"__name__"))(a:qc ((x == ("__debug__":Str))=false)):PE X (.Name x pos) (tC v) :=
 fun _ _ _ H _ I h=>Kp I b e c ⟨v,H,I,r,h⟩ d a
variable{a b:Expr}{ta tb:TE}
def PC(X:Cx)(op:CmpOp)(a b:Expr)(t:TE):Prop :=
 ∀(pins:Z8) (s:Shared) (σ:St) (H:Hp) (Q:VK),Inv X pins σ H s->t σ H Q ->
  qd X X.A (eval a X.env) (fun v s₁=>qd X X.A (eval b X.env) (fun u s₂=>qd X X.A (compareOp op v u) (EP X pins σ Q) X.xe s₂) X.xe s₁) X.xe s
def tB(t:TE):TT:=fun σ H Q=>t σ H fun x H1=>∃c,x=.bl c/\Q c H1
theorem pe_cmp{op:CmpOp}{t:TE}(h:PC X op a b t)(f:behindInMarks op b=false:=by first | exact nobehind _ Dc Dc | rfl):PE X (.Compare a [op] [b] pos) t:=fun c s d H Q I e=>wpAny_Compare1 (h c s d H Q I e) f
theorem Jz{t:TE}(h:PE X e t)(he:autoParam (∀whole,isTrue e X.env whole=(do let v ← whole;standAt e.pos;holding [v] (truthy v))) J4._auto_1):PT X e (tB t):=by
 intro a s i H Q I f
 refine isTrue_plain (thn (h a s i H _ I f) fun v l b=>?_) (he _)
 obtain⟨x,j,c,g,k⟩:=b
 obtain⟨d,rfl,q⟩:=k
 cases g
 exact Y31 ⟨j,c,q⟩
variable{tA tB':TT}{rest:List Expr}
def tAnd(t u:TT):TT:=fun σ H Q=>t σ H fun c H1=>if c=true then u σ H1 Q else Q false H1
def tOr(t u:TT):TT:=fun σ H Q=>t σ H fun c H1=>if c=true then Q true H1 else u σ H1 Q
def tNot(t:TT):TT:=fun σ H Q=>t σ H fun c H1=>Q (!c) H1
theorem Ys(d:PT X a tA):PW X (.BoolOp .And [a] pos) tA:=by
 intro g b s f H Q I h
 refine isTrue_and (thn (d b s f H Q I h) fun c i e=>?_)
 cases c with
 |true=>exact isTrue_and_nil e
 |false=>exact e
theorem Kq(d:PT X a tA):PW X (.BoolOp .Or [a] pos) tA:=by
 intro g b s f H Q I h
 refine isTrue_or (thn (d b s f H Q I h) fun c i e=>?_)
 cases c with
 |false=>exact isTrue_or_nil e
 |true=>exact e
theorem Zd(m:PT X a tA)(l:PW X (.BoolOp .And (b::rest) pos) tB'):PW X (.BoolOp .And (a::b::rest) pos) (tAnd tA tB'):=by
 intro k d s g H Q I h
 refine isTrue_and (thn (m d s g H _ I h) fun c n e=>?_)
 obtain⟨i,f,j⟩:=e
 cases c with
 |true=>exact l k d n g i Q f j
 |false=>exists i,f,j
theorem Wy(m:PT X a tA)(l:PW X (.BoolOp .Or (b::rest) pos) tB'):PW X (.BoolOp .Or (a::b::rest) pos) (tOr tA tB'):=by
 intro k d s g H Q I h
 refine isTrue_or (thn (m d s g H _ I h) fun c n e=>?_)
 obtain⟨i,f,j⟩:=e
 cases c with
 |true=>exists i,f,j
 |false=>exact l k d n g i Q f j
theorem Vj(e:PT X a tA):PT X (.UnaryOp .Not a pos) (tNot tA):=by
 intro b s d H Q I h
 exact isTrue_not (e b s d H (fun c f=>Q (!c) f) I h)
def tAndV(ta tb:TE):TE:=fun σ H Q=>ta σ H fun x H1=>∃c,x=.bl c/\if c=true then tb σ H1 Q else Q (.bl false) H1
def tNotV(ta:TE):TE:=fun σ H Q=>ta σ H fun x H1=>∃c,x=.bl c/\Q (.bl (!c)) H1
theorem Ws{op}{t:TE}(h:PE X a t):PE X (.BoolOp op [a] pos) t:=fun b s c H Q I d=>BoolOp_one (h b s c H Q I d)
theorem Vk(m:PE X a ta)(k:PE X (.BoolOp .And (b::rest) pos) tb):PE X (.BoolOp .And (a::b::rest) pos) (tAndV ta tb):=by
 intro d s i H Q I h
 refine BoolOp_and (thn (m d s i H _ I h) fun v n f=>?_)
 obtain⟨x,j,g,l,e⟩:=f
 obtain⟨c,rfl,e⟩:=e
 cases l
 refine Y31 ?_
 cases c with
 |true=>exact k d n i j Q g e
 |false=>exists .bl false,j,g,rfl,e
theorem Quo(i:PE X a ta):PE X (.UnaryOp .Not a pos) (tNotV ta):=by
 intro b s j H Q I h
 refine UnaryOp_ (thn (i b s j H _ I h) fun v l d=>?_)
 obtain⟨x,k,f,g,e⟩:=d
 obtain⟨c,rfl,e⟩:=e
 cases g
 exact not_of (Y31 ⟨.bl (!c),k,f,rfl,e⟩)
def tIf(t:TT)(ta tb:TE):TE:=fun σ H Q=>t σ H fun c H1=>if c=true then ta σ H1 Q else tb σ H1 Q
theorem Qdn{c:Expr}(o:PT X c tA)(n:PE X a ta)(m:PE X b tb):PE X (.IfExp c a b pos) (tIf tA ta tb):=by
 intro e s g H Q I h
 refine wpAny_IfExp (thn (o e s g H _ I h) fun d k f=>?_)
 obtain⟨j,i,l⟩:=f
 cases d with
 |true=>exact n e k g j Q i l
 |false=>exact m e k g j Q i l
end
def SqL(K:Fg)(H:Hp)(a:Addr)(xs:List V):Prop :=
 Rd H a (.lst xs) \/
  ∃(o:Obj) (its:Array Value) (n:Nat),K.lookup a=some o/\o.cls=.type "list"/\o.dict=none/\o.data=.seq its n/\its.size<=sizeLine/\Vals xs its.toList
def SqT(K:Fg)(H:Hp)(a:Addr)(xs:List V):Prop :=
 Rd H a (.tup xs) \/
  ∃(o:Obj) (its:Array Value) (n:Nat),K.lookup a=some o/\o.cls=.type "tuple"/\o.data=.seq its n/\its.size<=sizeLine/\Vals xs its.toList
def absV:Value->Option V
 |.none=>some .non
 |.bool b=>some (.bl b)
 |.int i _=>some (.int i)
 |.str x _=>some (.str x)
 |.bytes b _=>some (.byt b)
 |.float b _=>some (.flt b)
 |.ref a=>some (.ref a)
 |.type n=>some (.ty n)
 |_=>none
theorem RelV.abs{x:V}(r:RelV x u):absV u=some x:=by
 cases x with
 |non=>cases r;rfl
 |bl _=>cases r;rfl
 |int _=>obtain⟨t,rfl⟩:=r;rfl
 |str _=>obtain⟨t,rfl⟩:=r;rfl
 |byt _=>obtain⟨t,rfl⟩:=r;rfl
 |flt _=>obtain⟨t,rfl⟩:=r;rfl
 |ref _=>cases r;rfl
 |ty _=>cases r;rfl
theorem RelV.inj{x:V}(r:RelV x u)(q:RelV y u):x=y:=Y5 (r.abs.symm.trans q.abs)
theorem Vals.inj(h:Vals xs us)(g:Vals ys us):xs=ys:=by
 induction h generalizing ys with
 |nil=>cases g;rfl
 |cons r t ih=>
  cases g with
  |cons r' t'=>rw[r.inj r',ih t']
section
variable{X:Cx}{σ:St}
theorem Inv.list(I:Inv X pins σ H s)(h:SqL X.K H a xs):∃its:List Value,Vals xs its/\PlainL s.heap a its.toArray/\xs.length<=sizeLine:=by
 rcases h with h | ⟨o,its,n,b,f,c,d,g,r⟩
 .obtain⟨z,its,n,r,e⟩:=h.ok I.hok
  exists its,r,⟨_,n,e,rfl,rfl,rfl⟩,z
 .refine⟨its.toList,r,⟨o,n,I.kIn a o b,f,c,by simpa using d⟩,?_⟩
  have e:=r.length
  simp only[jXa]at e
  lia
theorem Inv.tuple(I:Inv X pins σ H s)(h:SqT X.K H a xs):∃its:List Value,Vals xs its/\IsTup s.heap a its.toArray/\xs.length<=sizeLine:=by
 rcases h with h | ⟨o,its,n,b,c,d,f,r⟩
 .obtain⟨z,its,r,p⟩:=h.ok I.hok
  exists its,r,p,z
 .refine⟨its.toList,r,⟨o,I.kIn a o b,c,n,by simpa using d⟩,?_⟩
  have e:=r.length
  simp only[jXa]at e
  lia
theorem Inv.list_inj(I:Inv X pins σ H s)(h:SqL X.K H a xs)(h':SqL X.K H a ys):xs=ys:=by
 obtain⟨c,r,⟨o,n,e,_,_,d⟩,_⟩:=I.list h
 obtain⟨b,j,⟨l,k,f,_,_,g⟩,_⟩:=I.list h'
 rw[e]at f;cases f
 rw[d]at g
 injection g with i _
 have:c=b:=by simpa using congrArg Array.toList i
 subst this
 exact r.inj j
theorem Inv.tuple_inj(I:Inv X pins σ H s)(h:SqT X.K H a xs)(h':SqT X.K H a ys):xs=ys:=by
 obtain⟨c,r,⟨o,e,_,n,d⟩,_⟩:=I.tuple h
 obtain⟨b,j,⟨l,f,_,k,g⟩,_⟩:=I.tuple h'
 rw[e]at f;cases f
 rw[d]at g
 injection g with i _
 have:c=b:=by simpa using congrArg Array.toList i
 subst this
 exact r.inj j
end
abbrev Cx.wish(X:Cx)(E:VP):Cx:={ X with xe:=E }
abbrev Cx.nox(X:Cx):Cx:=X.wish fun _ _=>False
theorem Cx.Ok.wish{X:Cx}(ok:X.Ok)(E:VP):(X.wish E).Ok :=
 ⟨ok.mod,ok.kind,ok.glob,ok.blt,ok.above,ok.inj,ok.has,ok.cab,ok.hd,ok.frames,ok.stk,ok.exf,ok.bs,ok.bsz,ok.noex,ok.exfs,ok.funs,ok.frf⟩
theorem Cx.Ok.unwish{X:Cx}(ok:(X.wish E).Ok):X.Ok :=
 ⟨ok.mod,ok.kind,ok.glob,ok.blt,ok.above,ok.inj,ok.has,ok.cab,ok.hd,ok.frames,ok.stk,ok.exf,ok.bs,ok.bsz,ok.noex,ok.exfs,ok.funs,ok.frf⟩
section
variable{X:Cx}{σ:St}
theorem Inv.wish(I:Inv X pins σ H s)(E:VP):Inv (X.wish E) pins σ H s:=⟨I.ok.wish E,I.os,I.bare,I.base,I.loc,I.cell,I.free,I.freeC,I.pin,I.hok,I.len⟩
theorem Inv.unwish(I:Inv (X.wish E) pins σ H s):Inv X pins σ H s:=⟨I.ok.unwish,I.os,I.bare,I.base,I.loc,I.cell,I.free,I.freeC,I.pin,I.hok,I.len⟩
theorem SP.unwish{D:Ends}{f:Flow}(h:SP (X.wish E) pins D f s'):SP X pins D f s':=by
 cases f with
 |next=>obtain⟨a,b,I,q⟩:=h;exists a,b,I.unwish,q
 |brk=>obtain⟨a,b,I,q⟩:=h;exists a,b,I.unwish,q
 |cont=>obtain⟨a,b,I,q⟩:=h;exists a,b,I.unwish,q
 |ret u=>obtain⟨v,a,b,I,r,q⟩:=h;exists v,a,b,I.unwish,r,q
theorem PSs.nox{st:List Stmt}{t:TS}(h:PSs X.nox st t):PSs X st t:=fun a s b H D I c=>
 Y29 (h a s b H D (I.wish _) c) (fun _ _ q=>q.unwish) fun _ _ z=>False.elim z
end
section
variable{X:Cx}{rest:List Stmt}{t u:TS}{te:TE}
def tNext:TS:=fun D σ H=>D.nx σ H
def tSeq(t u:TS):TS:=fun D σ H=>t { D with nx:=u D } σ H
theorem Qv:PSs X [] tNext:=fun _ _ a H _ I h=>Y66 ⟨a,H,I,h⟩
theorem Qg(g:PS X st t)(c:PSs X rest u):PSs X (st::rest) (tSeq t u):=by
 intro a s e H D I h
 refine wpAny_execs_cons (thn (g a s e H { D with nx:=u D } I h) fun f d q=>?_)
 cases f with
 |next=>
  obtain⟨b,i,j,q⟩:=q
  exact c a d b i D j q
 |ret v=>exact q
 |brk=>exact q
 |cont=>exact q
theorem Qi(c:PS X st t):PSs X [st] t:=by
 intro a s b H D I h
 refine wpAny_execs_cons (thn (c a s b H D I h) fun f d q=>?_)
 cases f with
 |next=>exact Y66 q
 |ret v=>exact q
 |brk=>exact q
 |cont=>exact q
theorem Inv.quiet{σ:St}(I:Inv X pins σ H s):interactive X.env=false:=by simp[interactive,I.ok.kind]
def tDrop(te:TE):TS:=fun D σ H=>te σ H fun _ H1=>D.nx σ H1
theorem Yj(he:PE X e te)(c:qb (swapsWith e none pos.line X.env=pure false)):PS X (.Expr e pos) (tDrop te):=by
 intro a s b H D I h
 exact wpAny_Expr_any (thn (he a s b H _ I h) fun v s1 ⟨x,H1,I1,r1,q1⟩=>⟨b,H1,I1,q1⟩) I.quiet c
def tRet(te:TE):TS:=fun D σ H=>te σ H D.rt
theorem Qx(he:PE X e te):PS X (.Return (some e) pos) (tRet te):=by
 intro a s b H D I h
 exact wpAny_Return_some (thn (he a s b H _ I h) fun v s1 ⟨x,H1,I1,r1,q1⟩=>⟨x,b,H1,I1,r1,q1⟩)
def tIfS(c:TT)(t u:TS):TS:=fun D σ H=>c σ H fun b H1=>if b=true then t D σ H1 else u D σ H1
theorem Xp{c:Expr}{a b:List Stmt}{tc:TT}(o:PT X c tc)(n:PSs X a t)(m:PSs X b u):PS X (.If c a b pos) (tIfS tc t u):=by
 intro e s g H D I h
 refine wpAny_If (thn (o e s g H _ I h) fun d k f=>?_)
 obtain⟨j,i,l⟩:=f
 cases d with
 |true=>exact n e k g j D i l
 |false=>exact m e k g j D i l
end
abbrev TG:=V->St->Hp->(St->Hp->Prop)->Prop
abbrev TGs:=List V->St->Hp->(St->Hp->Prop)->Prop
def PG(X:Cx)(target:Expr)(t:TG):Prop :=
 ∀(pins:Z8) (s:Shared) (σ:St) (H:Hp) (v:V) (u:Value) (Q:St->Hp->Prop),Inv X pins σ H s->RelV v u->t v σ H Q ->
  qd X X.A (assign target X.env u) (fun _ s'=>∃σ' H',Inv X pins σ' H' s'/\Q σ' H') X.xe s
def PGs(X:Cx)(ts:List Expr)(t:TGs):Prop :=
 ∀(pins:Z8) (s:Shared) (σ:St) (H:Hp) (vs:List V) (us:List Value) (Q:St->Hp->Prop),Inv X pins σ H s->Vals vs us->t vs σ H Q ->
  qd X X.A (assignInOrder ((assignEach ts X.env).map (·.2)) us) (fun _ s'=>∃σ' H',Inv X pins σ' H' s'/\Q σ' H') X.xe s
abbrev TSet:=V->V->V->Hp->(Hp->Prop)->Prop
def PSet(X:Cx)(t:TSet):Prop :=
 ∀(pins:Z8) (s:Shared) (σ:St) (H:Hp) (o i v:V) (ov iv u:Value) (Q:Hp->Prop),Inv X pins σ H s->RelV o ov->RelV i iv->RelV v u->t o i v H Q ->
  qd X X.A (setItem ov iv u) (fun _ s'=>∃H',Inv X pins σ H' s'/\Q H') X.xe s
abbrev TIp:=V->V->Hp->VK->Prop
def PIp(X:Cx)(op:Operator)(t:TIp):Prop :=
 ∀(pins:Z8) (s:Shared) (σ:St) (H:Hp) (x y:V) (v u:Value) (Q:VK),Inv X pins σ H s->RelV x v->RelV y u->t x y H Q ->
  qd X X.A (inplaceOp op v u) (EP X pins σ Q) X.xe s
section
variable{X:Cx}
def Vl(i:Nat):TG:=fun v σ H Q=>Q (σ.set i (some v)) H
theorem Qt(c:X.N.Nodup)(b:X.N[i]?=some x)(e:Loc X.env.scope x)(d:autoParam (X.fn x=true\/qh X x=some .local) J3._auto_1):PG X (.Name x pos) (Vl i):=by
 intro a s g H v u Q I r h
 exact wpAny_assign_Name (Vi I c b e r (fun j f=>⟨_,H,f,h⟩) d)
theorem Z3(i:Nat)(b:X.N.Nodup)(d:X.N[i]?=some x:=by exact rfl)(c:autoParam (Loc X.env.scope x) J3._auto_1)(a:autoParam (X.fn x=true\/qh X x=some .local) J3._auto_1):PG X (.Name x pos) (Vl i):=Qt b d c a
def gNil:TGs:=fun vs σ H Q=>vs=[]/\Q σ H
def Qla(t:TG)(u:TGs):TGs:=fun vs σ H Q=>∃v r,vs=v::r/\t v σ H fun σ' H'=>u r σ' H' Q
theorem Qdo:PGs X [] gNil:=by
 intro a s b H d c Q I r h
 obtain⟨e,h⟩:=h
 subst e
 cases r
 exact assignInOrder_nil ⟨b,H,I,h⟩
theorem Zr{t:TG}{u:TGs}(m:PG X e t)(g:PGs X es u)
  (i:qb ((assignEach (e::es) X.env).map (·.2)=assign e X.env::(assignEach es X.env).map (·.2))):PGs X (e::es) (Qla t u):=by
 intro a s j H p q Q I r h
 obtain⟨v,o,d,h⟩:=h
 subst d
 cases r with
 |cons r rr=>
  rw[i]
  refine assignInOrder_cons (thn (m a s j H _ _ _ I r h) fun _ l b=>?_)
  obtain⟨c,k,f,n⟩:=b
  exact g a l c k _ _ Q f rr n
def gTup(K:Fg)(n:Nat)(t:TGs):TG:=fun v σ H Q=>∃a xs,v=.ref a/\SqT K H a xs/\xs.length=n/\t xs σ H Q
theorem Qiw{k:Nat}{t:TGs}{n:Nat}(A:X.calm=true)(h:PGs X es t)
  (B:qb ((assignEach es X.env).length=n)) (f:qb ((assignEach es X.env).findIdx? (·.1)=none)):PG X (.Tuple es k pos) (gTup X.K n t):=by
 intro c s g H v u Q I r d
 obtain⟨a,m,j,q,z,d⟩:=d
 subst j
 cases r
 obtain⟨x,i,w,C⟩:=I.tuple q
 refine assign_Tuple_tuple (I.ok.hd A) w (by simp[B,<-z,i.length]) f fun y p=>?_
 have l:Inv X c g H { s with heap:=y }:=I.kept (t':=s.toks) fun b o e=>p b o (xZ (zQ e)) e
 exact h c _ g H m _ Q l (by simpa using i) d
def gSub(to ti:TE)(t:TSet):TG:=fun v σ H Q=>to σ H fun o H1=>ti σ H1 fun i H2=>t o i v H2 fun H3=>Q σ H3
theorem Qup{o i:Expr}{to ti:TE}{t:TSet}(p:PE X o to)(e:PE X i ti)(k:PSet X t)
  (g:∀v,assign (.Subscript o i pos) X.env v=(do
   let ov ← holding [v] (eval o X.env)
   let iv ← holding [v,ov] (eval i X.env)
   standAt pos
   holding [v,ov,iv] (setItem ov iv v)
   release [v,ov,iv] []):=by intro _;rfl):PG X (.Subscript o i pos) (gSub to ti t):=by
 intro b s c H v u Q I r h
 rw[g]
 refine jQ (Y30 (thn (p b s c H _ I h) fun ov B a=>?_))
 obtain⟨x,A,n,d,C⟩:=a
 refine jQ (Y30 (thn (e b B c A _ n C) fun iv q a=>?_))
 obtain⟨y,D,m,f,w⟩:=a
 refine jQ (Y62 (jQ (Y30 (thn (k b q c D x y v ov iv u _ m d f r w) fun _ E a=>?_))))
 obtain⟨l,z,j⟩:=a
 exact wpAny_release ⟨c,l,z,j⟩
def tAsg(te:TE)(g:TG):TS:=fun D σ H=>te σ H fun x H1=>g x σ H1 D.nx
theorem Qix{te:TE}{g:TG}(he:PE X e te)(j:PG X tg g)(k:qb (swapsWithSole [tg] e pos.line X.env=pure false))(f:qb (swappedStores [tg] e X.env=pure none))
  (n:qb ((assignEach [tg] X.env).map (·.2)=[assign tg X.env])):PS X (.Assign [tg] e pos) (tAsg te g):=by
 intro a s c H D I h
 refine wpAny_Assign_stores (thn (he a s c H _ I h) fun v m b=>?_) k f
 obtain⟨x,l,d,i,o⟩:=b
 rw[n]
 exact thn (j a m c l x v _ d i o) fun _ p q=>q
theorem Qo{te:TE}(l:X.N.Nodup)(p:X.N[i]?=some x)(o:Loc X.env.scope x)(he:PE X e te)(g:qb (swapsWith e (some (.Name x pos')) pos.line X.env=pure false))(n:autoParam (X.fn x=true\/qh X x=some .local) J3._auto_1) :
  PS X (.Assign [.Name x pos'] e pos) (tAsg te (Vl i)):=by
 intro a s j H D I h
 refine wpAny_Assign_Name (thn (he a s j H _ I h) fun v q b=>?_) g
 obtain⟨y,k,c,d,m⟩:=b
 exact Vi c l p o d (fun r f=>⟨_,k,f,m⟩) n
theorem Z4(i:Nat){te:TE}(b:X.N.Nodup)(he:PE X e te)(f:X.N[i]?=some x:=by exact rfl)(d:autoParam (Loc X.env.scope x) J3._auto_1)(a:qb (swapsWith e (some (.Name x pos')) pos.line X.env=pure false))(c:autoParam (X.fn x=true\/qh X x=some .local) J3._auto_1) :
  PS X (.Assign [.Name x pos'] e pos) (tAsg te (Vl i)):=Qo b f d he a c
def tAug(i:Nat)(te:TE)(ti:TIp):TS:=fun D σ H=>∃x,σ[i]?=some (some x)/\te σ H fun y H1=>ti x y H1 fun z H2=>D.nx (σ.set i (some z)) H2
theorem Qmo{te:TE}{op:Operator}{ti:TIp}(E:X.N.Nodup)(p:X.N[i]?=some x)(j:Loc X.env.scope x)(he:PE X e te)(L:PIp X op ti)(M:autoParam (X.fn x=true\/qh X x=some .local) J3._auto_1) :
  PS X (.AugAssign (.Name x pos') op e pos) (tAug i te ti):=by
 intro a s q H D I h
 obtain⟨v,J,h⟩:=h
 obtain⟨m,V,F⟩:=I.loc
 have n:Vis X.env.scope x:=by rcases j with k | k;exact .inl k;exact .inr (.inl k)
 obtain⟨u,r,l⟩:=F i x v p J n
 refine wpAny_AugAssign_Name ?_
 have o:qd X X.A (eval e X.env) (fun w f=>qd X X.A (inplaceOp op u w) (fun r g=>qd X X.A (storeName X.env x r) (fun _=>SP X a D .next) X.xe g) X.xe f) X.xe s:=by
  refine thn (he a s q H _ I h) fun w S b=>?_
  obtain⟨y,R,K,t,T⟩:=b
  refine thn (L a S q R v y u w _ K r t T) fun z Z b=>?_
  obtain⟨Y,U,G,C,P⟩:=b
  exact Vi G E p j C (fun W Q=>⟨_,U,Q,P⟩) M
 rcases l with⟨hk,O⟩ | ⟨hk,c,B,d⟩
 .exact wpAny_loadName_local I.ok.kind hk V O o
 .rcases hk with hk | hk
  .exact wpAny_loadName_cell I.ok.kind hk B d o
  .rcases j with k | k
   .have:qh X x=some .free:=hk
    rw[k]at this;cases this
   .have:qh X x=some .free:=hk
    rw[k]at this;cases this
def ipI(f:Int->Int->Int):TIp:=fun x y H Q=>∃i j,x=.int i/\y=.int j/\Q (.int (f i j)) H
theorem ip_add:PIp X .Add (ipI fun i j=>i+j):=by
 intro a s f H x y v u Q I c d h
 obtain⟨i,j,b,e,q⟩:=h
 subst b;subst e
 obtain⟨t,rfl⟩:=c
 obtain⟨g,rfl⟩:=d
 exact iadd_int ⟨.int _,H,I.tok _,⟨_,rfl⟩,q⟩
theorem ip_sub:PIp X .Sub (ipI fun i j=>i-j):=by
 intro a s f H x y v u Q I c d h
 obtain⟨i,j,b,e,q⟩:=h
 subst b;subst e
 obtain⟨t,rfl⟩:=c
 obtain⟨g,rfl⟩:=d
 exact isub_int ⟨.int _,H,I.tok _,⟨_,rfl⟩,q⟩
end
set_option genInjectivity false in
set_option genInjectivity false in
structure It where
 go:Nat->Hp->Prop
 yld:Nat->Hp->V->Hp->Prop
 stop:Nat->Hp->Prop
def FpOk(X:Cx)(pins:Z8)(H:Hp)(b:Addr):Prop :=
 H b=none/\b≠X.env.locals/\b∉X.fs/\(b∈X.ex\/X.s₀.heap.objs.size<=b)/\(∀x c,X.env.cells.lookup x=some c->c≠b)/\∀p∈X.pn++pins,p.1≠b
theorem Inv.fpOk{X:Cx}{σ:St}(I:Inv X pins σ H s)(a:(qa s)<=b)(d:H' b=none):FpOk X pins H' b:=by
 exists d,kYc (xW I.lt a),I.nofs a,.inr (wZ I.sz a),fun x c e z=>?_,fun p f z=>?_
 .obtain⟨v,q⟩:=I.cell x c e
  exact Y21 (xW q.lt (by rw[z];exact a)) (jZd _)
 .exact Y21 (xW (zQ (I.pin p f).1) (by rw[z];exact a)) (jZd _)
structure Turn(P:Program)(w:World)(K:Fg)(tg:Expr)(J:It)(fp:List Addr)(it:Addr)(tn:Nat->Heap->Prop):Prop where
 mem:it∈fp
 obj:∀i h,tn i h->∀b∈fp,∃o,h.get? b=some o/\∀v,o.data≠.cell v
 keep:∀i h h',tn i h->(∀b∈fp,∀o,h.get? b=some o->h'.get? b=some o)->tn i h'
 item:∀(X:Cx),X.prog=P->X.w=w->X.K=K->X.calm=true->∀(i:Nat) (pins:Z8) (s:Shared) (σ:St) (H:Hp) (E:VP),Inv X pins σ H s->(∀b∈fp,FpOk X pins H b)->tn i s.heap->J.go i H ->
  qe P w X.A (pyNext (.ref it)) (fun r s1=>∃u,r=some u /\
   qe P w X.A (letOwnedTupleGo tg (.ref it) u) (fun _ s2=>∃x H',Inv X pins σ H' s2/\RelV x u/\J.yld i H x H'/\tn (i+1) s2.heap/\∀b∈fp,H' b=none) E s1) E s
 done:∀(X:Cx),X.prog=P->X.w=w->X.K=K->X.calm=true->∀(i:Nat) (pins:Z8) (s:Shared) (σ:St) (H:Hp) (E:VP),Inv X pins σ H s->(∀b∈fp,FpOk X pins H b)->tn i s.heap->J.stop i H ->
  qe P w X.A (pyNext (.ref it)) (fun r s1=>r=none/\Inv X pins σ H s1) E s
 self:∀(A:Around) (i:Nat) (s:Shared) (Q:VP) (E:VP),tn i s.heap->Q (.ref it) s->qe P w A (pyIter (.ref it)) Q E s
abbrev TI:=St->Hp->(It->Hp->Prop)->Prop
def PIE(X:Cx)(pins:Z8)(σ:St)(tg:Expr)(R:It->Hp->Prop)(itv:Value)(s2:Shared):Prop :=
 ∃(it:Addr) (fp:List Addr) (tn:Nat->Heap->Prop) (J:It) (H':Hp),itv=.ref it/\Inv X pins σ H' s2/\Turn X.prog X.w X.K tg J fp it tn/\tn 0 s2.heap/\(∀b∈fp,FpOk X pins H' b)/\R J H'
def PI(X:Cx)(tg iter:Expr)(wi:TI):Prop :=
 ∀(pins:Z8) (s:Shared) (σ:St) (H:Hp) (R:It->Hp->Prop),Inv X pins σ H s->wi σ H R ->
  qd X X.A (eval iter X.env) (fun v s1=>qd X X.A (pyIter v) (PIE X pins σ tg R) X.xe s1) X.xe s
theorem Qmp{n:String} {vs:Array Value} {Q:Unit->Shared->Prop} (c:s.heap.get? it=some o) (d:o.cls=.type n) (b:o.data=.fields vs)
    (e:["enumerate","zip","dict_itemiterator","dict_reverseitemiterator","odict_iterator","itertools.zip_longest","itertools.pairwise"].contains n=false) (a:Q () s):wpAny M A (letOwnedTupleGo tg (.ref it) u) Q E s:=by
  unfold letOwnedTupleGo
  cases tg<;>first
    |exact kQ a
    | (cases u <;> first
        |exact kQ a
        | (refine jQ (wpAny_load c ?_)
           rw[d,b]
           show wpAny M A (if (["enumerate","zip","dict_itemiterator","dict_reverseitemiterator","odict_iterator","itertools.zip_longest","itertools.pairwise"].contains n&&vs[0]? == some (rawInt _))=true then _ else _) Q E s
           rw[Y20 (by intro h;rw[e,Bool.false_and]at h;cases h)]
           exact kQ a))
def Itl(K:Fg)(a:Addr):It :=
 ⟨fun i H=>∃xs x,SqL K H a xs/\xs[i]?=some x,fun i H x H'=>H'=H/\∀xs,SqL K H a xs->xs[i]?=some x,fun i H=>∃xs,SqL K H a xs/\xs.length<=i⟩
def Itr(lo:Int)(n:Nat):It:=⟨fun i _=>i<n,fun i H x H'=>H'=H/\x=.int (lo+i),fun i _=>n<=i⟩
theorem Qmq{w:World}(a l:Addr):Turn P w K tg (Itl K a) [l] l (fun i h=>h.IsListIter l a i) where
 mem:=by simp
 obj:=fun i h f b j=>by
  have e:b=l:=by simpa using j
  subst e
  obtain⟨o,e,c,d⟩:=f
  exists o,e,fun v z=>by rw[d]at z;cases z
 keep:=fun i h n f k=>f.at fun o e=>k l (by simp) o e
 item:=by
  intro X J F D Q i g s R H E I r f y
  subst J F D
  obtain⟨T,x,q,C⟩:=y
  obtain⟨A,O,p,hz⟩:=I.list q
  obtain⟨u,U,ru⟩:=O.get C
  obtain⟨G,N,V,M,B,L⟩:=r l (by simp)
  refine wpAny_pyNext_list_item f p.isList (x:=u) (by simpa using U) fun n m Z=>?_
  have W:Inv X g R H { s with heap:=n }:=I.turned (t':=s.toks) (fun b o j e=>(Z.2 b j).trans e) G N M B L
  obtain⟨o,e,c,d⟩:=id m
  exists u,rfl,Qmp (s:={ s with heap:=n }) e c d Dc ⟨x,H,W,ru,⟨rfl,fun ys S=>by rw[I.list_inj S q];exact C⟩,m,fun b j=>(r b j).1⟩
 done:=by
  intro X J F D Q i g s R H E I r f y
  subst J F D
  obtain⟨T,q,C⟩:=y
  obtain⟨A,O,p,hz⟩:=I.list q
  obtain⟨G,N,V,M,B,L⟩:=r l (by simp)
  have hl:=O.length
  exact wpAny_pyNext_list_end (I.ok.hd Q) f p.isList (by simp;lia) fun n Y=>⟨rfl,I.turned (t':=s.toks) (fun b o j e=>Y b o j e) G N M B L⟩
 self:=fun _ _ _ _ _ f h=>wpAny_pyIter_listiter f h
theorem Qlb{w:World}(d:Addr)(lo:Int)(n:Nat):Turn P w K tg (Itr lo n) [d] d (fun i h=>IsRangeIter h d (lo+(i:Nat)*1) ((n:Int)-(i:Nat)) 1) where
 mem:=by simp
 obj:=fun i h a b f=>by
  have e:b=d:=by simpa using f
  subst e
  exact⟨_,a,fun v z=>by
   have O:Data.fields _=Data.cell v:=z
   cases O⟩
 keep:=fun i h j a k=>k d (by simp) _ a
 item:=by
  intro X y u r q i c s D H E I l a m
  subst y u r
  obtain⟨x,C,J,B,p,A⟩:=l d (by simp)
  have W:=Walks.range (prog:=X.prog) (w:=X.w) (I.ok.hd q) d lo 1 n
  refine W.item i s _ _ m a fun v j F G g N=>?_
  obtain⟨t,rfl⟩:=G
  have L:Inv X c D H { s with heap:=j,toks:=F }:=I.turned (fun b o f e=>N b o (by simpa using f) e) x C B p A
  exists _,rfl,Qmp (s:={ s with heap:=j,toks:=F }) (n:="range_iterator") g rfl rfl Dc ⟨.int (lo+i),H,L,⟨t,?_⟩,⟨rfl,rfl⟩,g,fun b f=>(l b f).1⟩
  rw[Int.mul_one]
 done:=by
  intro X y u r q i c s D H E I l a m
  subst y u r
  obtain⟨x,C,J,B,p,A⟩:=l d (by simp)
  exact wpAny_pyNext_range_end (I.ok.hd q) a (by have:n<=i:=m;lia) fun j M=>⟨rfl,I.turned (t':=s.toks) (fun b o f e=>M b o f e) x C B p A⟩
 self:=fun _ _ _ _ _ a h=>wpAny_pyIter_rangeiter a h
section
variable{X:Cx}
def iList(K:Fg)(tl:TE):TI:=fun σ H R=>tl σ H fun x H1=>∃a,x=.ref a/\(∃xs,SqL K H1 a xs)/\R (Itl K a) H1
theorem Xd{l:Expr}{tl:TE}(u:PE X l tl):PI X tg l (iList X.K tl):=by
 intro c s m H R I h
 refine thn (u c s m H _ I h) fun v f g=>?_
 obtain⟨x,n,d,j,r⟩:=g
 obtain⟨a,e,⟨y,w⟩,q⟩:=r
 subst e
 cases j
 obtain⟨k,A,p,z⟩:=d.list w
 refine Y51 p.isList ?_
 exists (qa f),[(qa f)],_,_,n,rfl,d.kept (t':=f.toks) fun b o e=>jW _ e,Qmq a _,⟨_,yJ _ rfl,rfl,rfl⟩,fun b i=>?_,q
 have e:b=(qa f):=by simpa using i
 subst e
 exact d.fpOk (jJ _) (d.hok.fresh (jJ _))
theorem Qiy{σ:St}{R:It->Hp->Prop}{lo hi:Int}{t u v:Tok}{tk:Nat}(I:Inv X pins σ H s)(i:-(2 ^ 62)<=lo)(f:lo<2 ^ 62)(h:-(2 ^ 62)<=hi)(g:hi<2 ^ 62)
  (q:R (Itr lo (hi-lo).toNat) H):qd X X.A (pyIter (.ref (qa s))) (PIE X pins σ tg R) E { s with heap:=s.heap.push { cls:=.type "range",data:=.fields #[.int lo t,.int hi u,.int 1 v] },toks:=tk }:=by
 refine wpAny_pyIter_range (IsRange.new ..) (small_one i f h g) ?_
 have a:Inv X pins σ H { s with heap:=s.heap.push { cls:=.type "range",data:=.fields #[.int lo t,.int hi u,.int 1 v] },toks:=tk }:=I.kept fun b o e=>jW _ e
 refine⟨(s.heap.push { cls:=.type "range",data:=.fields #[.int lo t,.int hi u,.int 1 v] }).objs.size,[(s.heap.push { cls:=.type "range",data:=.fields #[.int lo t,.int hi u,.int 1 v] }).objs.size],_,_,H,rfl,
  a.kept (t':=tk) fun b o e=>jW _ e,Qlb _ lo (hi-lo).toNat,?_,fun b d=>?_,q⟩
 .have c:lo+((0:Nat):Int)*1=lo:=by simp
  have j:(((hi-lo).toNat:Nat):Int)-((0:Nat):Int)=Builtin.Range.rangeSize lo hi 1:=by rw[rangeSize_one];split<;>lia
  show IsRangeIter _ _ (lo+((0:Nat):Int)*1) ((((hi-lo).toNat:Nat):Int)-((0:Nat):Int)) 1
  rw[c,j]
  exact yJ _ rfl
 .have e:b=(s.heap.push { cls:=.type "range",data:=.fields #[.int lo t,.int hi u,.int 1 v] }).objs.size:=by simpa using d
  subst e
  exact a.fpOk (jJ _) (a.hok.fresh (jJ _))
def iRng1(ta:TA):TI:=fun σ H R=>ta σ H fun vs H1=>∃j:Int,vs=[.int j]/\-(2 ^ 62)<=j/\j<2 ^ 62/\R (Itr 0 j.toNat) H1
def iRng2(ta:TA):TI:=fun σ H R=>ta σ H fun vs H1=>∃i j:Int,vs=[.int i,.int j]/\(-(2 ^ 62)<=i/\i<2 ^ 62/\-(2 ^ 62)<=j/\j<2 ^ 62)/\R (Itr i (j-i).toNat) H1
theorem Xs{a:Expr}{ta:TA}{p:Pos}(k:Gl X "range")(o:X.mg "range"=none)(l:PA X [a] ta)(m:qb (starEach [a] X.env=[(false,eval a X.env)])):PI X tg (.Call (.Name "range" p) [a] [] pos) (iRng1 ta):=by
 intro b s n H R I h
 refine Call_ (Kp I k o boot_range (Y38 (thn (l pos b s n H _ I h) fun x w c=>?_) m rfl))
 obtain⟨u,v,f,i,d⟩:=c
 obtain⟨j,e,d,g,q⟩:=d
 subst e
 cases i with
 |cons r rr=>
  cases rr
  obtain⟨t,rfl⟩:=r
  exact call_range_1 (Qiy f Om Om d g (by simpa using q))
theorem Qmr{a b:Expr}{ta:TA}{p:Pos}(l:Gl X "range")(x:X.mg "range"=none)(m:PA X [a,b] ta)(o:qb (starEach [a,b] X.env=[(false,eval a X.env),(false,eval b X.env)]))(c:qb (starEach [b] X.env=[(false,eval b X.env)])) :
  PI X tg (.Call (.Name "range" p) [a,b] [] pos) (iRng2 ta):=by
 intro d s w H R I h
 refine Call_ (Kp I l x boot_range (Y38 (thn (m pos d s w H _ I h) fun B D f=>?_) (by rw[o,c]) (by rw[c];rfl)))
 obtain⟨A,C,v,k,g⟩:=f
 obtain⟨i,j,e,⟨g,y,n,u⟩,q⟩:=g
 subst e
 cases k with
 |cons r rr=>
  cases rr with
  |cons r' rr=>
   cases rr
   obtain⟨t,rfl⟩:=r
   obtain⟨z,rfl⟩:=r'
   exact call_range_2 (Qiy v g y n u q)
def tFor(wi:TI)(g:TG)(tb:TS):TS:=fun D σ H=>wi σ H fun J H1=>∃W:Nat->Nat->St->Hp->Prop,(∃m,W 0 m σ H1)/\∀i m σ H,W i m σ H ->
 (J.stop i H/\D.nx σ H)\/(J.go i H/\∃N:St->Hp->Prop,(∀σ' H',N σ' H'->∃m',m'<m/\W (i+1) m' σ' H')/\∀x H',J.yld i H x H'->g x σ H' fun σ2 H2=>tb { D with nx:=N,ct:=N,bk:=D.nx } σ2 H2)
def Qfc(fp:List Addr)(h:Heap):Z8:=fp.filterMap fun b=>(h.get? b).map fun o=>(b,o)
theorem Ki{h:Heap}(a:b∈fp)(e:h.get? b=some o):(b,o)∈Qfc fp h:=xX.mpr ⟨b,a,by rw[e];rfl⟩
theorem Qms{h:Heap}{p:Addr×Obj}(c:p∈Qfc fp h):p.1∈fp/\h.get? p.1=some p.2:=by
 obtain⟨b,a,e⟩:=xX.mp c
 cases q:h.get? b with
 |none=>rw[q]at e;cases e
 |some o=>
  rw[q]at e
  have d:(b,o)=p:=Y5 e
  subst d
  exists a,q
theorem Inv.pinned{σ:St}(I:Inv X pins σ H s)(j:∀b∈fp,FpOk X pins H b)(h:∀b∈fp,∃o,s.heap.get? b=some o/\∀v,o.data≠.cell v):Inv X (pins++Qfc fp s.heap) σ H s :=
 I.pins_of fun p f=>(kW.mp f).elim (fun z=>I.pin p (yV _ z)) fun z=>by
  obtain⟨a,e⟩:=Qms z
  obtain⟨g,i,k,_⟩:=j p.1 a
  obtain⟨o,c,d⟩:=h p.1 a
  rw[e]at c;cases c
  exists e,g,i,k,d
theorem Inv.unpinned{pl:Z8}{σ:St}(I:Inv X (pins++pl) σ H s):Inv X pins σ H s:=I.pins_of fun p a=>I.pin p (yV _ (zY _ a))
theorem Yb{body:List Stmt}{wi:TI}{g:TG}{tb:TS}(K:PassesOwn (model X.prog X.w) X.A X.env X.xe)(Y:X.calm=true)(hi:PI X tg iter wi)(hg:PG X tg g)(l:PSs X body tb)
  (hs:autoParam (∀x,foldedSetIterable iter X.env x=pure x) J4._auto_1):PS X (.For tg iter body [] pos) (tFor wi g tb):=by
 intro c s σ H D I h
 refine wpAny_For (thn (hi c s σ H _ I h) fun v s1 h1=>thn h1 fun aa s2 h2=>?_) hs
 obtain⟨it,E,tn,J,H2,e,I2,T,U,Z,W,⟨m0,w0⟩,G⟩:=h2
 subst e
 -- what stays true of the iterator's objects through the loop
 have t:∀{H':Hp},(∀b∈E,H' b=none)->∀b∈E,FpOk X c H' b:=fun hn b l=>⟨hn b l,(Z b l).2⟩
 refine codeAny_forLoop_any (fun n s'=>∃i σ' H',Inv X c σ' H' s'/\tn i s'.heap/\(∀b∈E,H' b=none)/\W i n σ' H') ?_ m0 ⟨0,σ,H2,I2,U,fun b l=>(Z b l).1,w0⟩
 rintro n s3 ⟨i,p,O,I3,F,M,w3⟩
 rcases G i n p O w3 with⟨C,qn⟩ | ⟨go,N,hN,step⟩
 .refine Y65 K (thn (T.done X rfl rfl rfl Y i c s3 p O X.xe I3 (t M) F C) fun r s4 j=>?_)
  obtain⟨R,I4⟩:=j
  subst R
  exact Y66 ⟨p,O,I4,qn⟩
 .refine Y65 K (thn (T.item X rfl rfl rfl Y i c s3 p O X.xe I3 (t M) F go) fun r s4 j=>?_)
  obtain⟨u,R,h4⟩:=j
  subst R
  refine Y65 K (thn h4 fun _ s5 j=>?_)
  obtain⟨x,H5,I5,r5,y5,B,P⟩:=j
  have V:=I5.pinned (t P) (T.obj _ _ B)
  refine Y65 K (thn (hg _ s5 p H5 x u _ V r5 (step x H5 y5)) fun _ s6 j=>?_)
  obtain⟨S,H6,I6,q6⟩:=j
  refine Y65 K (thn (l _ s6 S H6 _ I6 q6) fun f Q z=>?_)
  have y:∀{a:St} {k:Hp},Inv X (c++Qfc E s5.heap) a k Q->N a k->∃m,m<n/\∃i σ' H',Inv X c σ' H' Q/\tn i Q.heap/\(∀b∈E,H' b=none)/\W i m σ' H':=fun{a k} q L=>by
   obtain⟨m',hm,w7⟩:=hN a k L
   exists m',hm,i+1,a,k,q.unpinned,T.keep _ _ _ B fun b l o e=>(q.pin (b,o) (yV _ (yV _ (Ki l e)))).1,fun b l=>?_,w7
   obtain⟨o,e,d⟩:=T.obj _ _ B b l
   exact(q.pin (b,o) (yV _ (yV _ (Ki l e)))).2.1
  cases f with
  |next=>obtain⟨a,k,q,L⟩:=z;exact y q L
  |cont=>obtain⟨a,k,q,L⟩:=z;exact y q L
  |brk=>obtain⟨a,k,q,z⟩:=z;exists a,k,q.unpinned,z
  |ret v=>obtain⟨x7,a,k,q,r7,z⟩:=z;exists x7,a,k,q.unpinned,r7,z
end
theorem Yx{g:TG}{tb:TS}{D:Ends}{σ:St}(b:Nat->St->Hp->Prop)(l:b 0 σ H)(k:∀i σ H,i<=xs.length->b i σ H->SqL K H a xs)
  (h:∀i x σ H,xs[i]?=some x->b i σ H->g x σ H fun σ2 H2=>tb { D with nx:=b (i+1),ct:=b (i+1),bk:=D.nx } σ2 H2) (f:∀σ H,b xs.length σ H->D.nx σ H) :
  ∃W:Nat->Nat->St->Hp->Prop,(∃m,W 0 m σ H)/\∀i m σ H,W i m σ H ->
   ((Itl K a).stop i H/\D.nx σ H)\/((Itl K a).go i H/\∃N:St->Hp->Prop,(∀σ' H',N σ' H'->∃m',m'<m/\W (i+1) m' σ' H')/\∀x H',(Itl K a).yld i H x H'->g x σ H' fun σ2 H2=>tb { D with nx:=N,ct:=N,bk:=D.nx } σ2 H2):=by
 exists fun i m σ H=>m=xs.length-i/\i<=xs.length/\b i σ H,⟨xs.length,by simp,wJ _,l⟩,?_
 rintro i m σ H ⟨rfl,d,p⟩
 have q:=k i σ H d p
 by_cases c:i<xs.length
 .refine .inr ⟨⟨xs,xs[i],q,by simp[c]⟩,b (i+1),fun σ' H' j=>⟨xs.length-(i+1),Om,rfl,c,j⟩,fun x H' y=>?_⟩
  obtain⟨e,y⟩:=y
  subst e
  exact h i x σ _ (y xs q) p
 .have e:i=xs.length:=Om
  subst e
  exact .inl ⟨⟨xs,q,jJ _⟩,f σ H p⟩
theorem Xy{lo:Int}{n:Nat}{g:TG}{tb:TS}{D:Ends}{σ:St}(a:Nat->St->Hp->Prop)(h:a 0 σ H)
  (d:∀i σ H,i<n->a i σ H->g (.int (lo+i)) σ H fun σ2 H2=>tb { D with nx:=a (i+1),ct:=a (i+1),bk:=D.nx } σ2 H2) (c:∀σ H,a n σ H->D.nx σ H) :
  ∃W:Nat->Nat->St->Hp->Prop,(∃m,W 0 m σ H)/\∀i m σ H,W i m σ H ->
   ((Itr lo n).stop i H/\D.nx σ H)\/((Itr lo n).go i H/\∃N:St->Hp->Prop,(∀σ' H',N σ' H'->∃m',m'<m/\W (i+1) m' σ' H')/\∀x H',(Itr lo n).yld i H x H'->g x σ H' fun σ2 H2=>tb { D with nx:=N,ct:=N,bk:=D.nx } σ2 H2):=by
 exists fun i m σ H=>m=n-i/\i<=n/\a i σ H,⟨n,by simp,wJ _,h⟩,?_
 rintro i m σ H ⟨rfl,j,p⟩
 by_cases b:i<n
 .refine .inr ⟨b,a (i+1),fun σ' H' f=>⟨n-(i+1),Om,rfl,b,f⟩,fun x H' y=>?_⟩
  obtain⟨e,y⟩:=y
  subst e y
  exact d i σ _ b p
 .have e:i=n:=Om
  subst e
  exact .inl ⟨jJ _,c σ H p⟩
abbrev R2:=V->V->Hp->VK->Prop
def OpR(X:Cx)(f:Value->Value->Sem Value)(r:R2):Prop :=
 ∀(pins:Z8) (s:Shared) (σ:St) (H:Hp) (x y:V) (v u:Value) (Q:VK),Inv X pins σ H s->RelV x v->RelV y u->r x y H Q ->
  qd X X.A (f v u) (EP X pins σ Q) X.xe s
def UnR(X:Cx)(f:Value->Sem Value)(r:V->Hp->VK->Prop):Prop :=
 ∀(pins:Z8) (s:Shared) (σ:St) (H:Hp) (x:V) (v:Value) (Q:VK),Inv X pins σ H s->RelV x v->r x H Q ->
  qd X X.A (f v) (EP X pins σ Q) X.xe s
def CallR(X:Cx)(f:Value)(r:List V->Hp->VK->Prop):Prop :=
 ∀(pins:Z8) (s:Shared) (σ:St) (H:Hp) (xs:List V) (us:List Value) (Q:VK),Inv X pins σ H s->Vals xs us->r xs H Q ->
  qd X X.A (call f us) (EP X pins σ Q) X.xe s
def tOp(r:R2)(ta tb:TE):TE:=fun σ H Q=>ta σ H fun x H1=>tb σ H1 fun y H2=>r x y H2 Q
def tUn(r:V->Hp->VK->Prop)(ta:TE):TE:=fun σ H Q=>ta σ H fun x H1=>r x H1 Q
inductive rI(C:Int->Int->Prop)(g:Int->Int->V)(x y:V)(H:Hp)(Q:VK):Prop|mk(i j:Int)(a:x=.int i)(b:y=.int j)(c:C i j)(q:Q (g i j) H):rI C g x y H Q
inductive rI0(g:Int->Int->V)(x y:V)(H:Hp)(Q:VK):Prop|mk(i j:Int)(a:x=.int i)(b:y=.int j)(q:Q (g i j) H):rI0 g x y H Q
def rU(g:Int->V):V->Hp->VK->Prop:=fun x H Q=>∃i,x=.int i/\Q (g i) H
section
variable{X:Cx}{a b:Expr}{ta tb:TE}
theorem binT(k:PE X a ta)(d:PE X b tb){σ:St}{R:V->V->Hp->Prop}(I:Inv X pins σ H s)
  (h:ta σ H fun x H1=>tb σ H1 fun y H2=>R x y H2) {Q:VP} {f:Value->Value->Sem Value}
  (n:∀v u s2 x y H2,Inv X pins σ H2 s2->RelV x v->RelV y u->R x y H2->qd X X.A (f v u) Q X.xe s2) :
  qd X X.A (eval a X.env) (fun v s₁=>qd X X.A (eval b X.env) (fun u s₂=>qd X X.A (f v u) Q X.xe s₂) X.xe s₁) X.xe s:=by
 refine thn (k pins s σ H _ I h) fun v l c=>?_
 obtain⟨x,H1,e,i,m⟩:=c
 refine thn (d pins l σ H1 _ e m) fun u s2 c=>?_
 obtain⟨y,H2,o,j,g⟩:=c
 exact n v u s2 x y H2 o i j g
theorem Qk{op:Operator}{r:R2}(g:OpR X (binaryOp op) r)(e:PE X a ta)(d:PE X b tb):PE X (.BinOp a op b pos) (tOp r ta tb):=by
 intro c s j H Q I h
 exact wpAny_BinOp (binT e d I h fun v u m x y k l f i q=>g c m j k x y v u Q l f i q)
theorem pe_un{op:UnaryOp}{r:V->Hp->VK->Prop}(e:UnR X (unaryOp op) r)(d:PE X a ta):PE X (.UnaryOp op a pos) (tUn r ta):=by
 intro b s c H Q I h
 exact UnaryOp_ (thn (d b s c H _ I h) fun v s1 ⟨x,H1,I1,r1,q1⟩=>e b s1 c H1 x v Q I1 r1 q1)
theorem opI{f:Value->Value->Sem Value}{C:Int->Int->Prop}{g:Int->Int->Int}
  (a:∀(i j:Int) (t u:Tok) (s:Shared) (Q:VP) (E:VP),C i j->Q (.int (g i j) s.toks) { s with toks:=s.toks+1 }->qd X X.A (f (.int i t) (.int j u)) Q E s) :
  OpR X f (rI C fun i j=>.int (g i j)):=by
 intro b s l H x y v u Q I c d h
 obtain⟨i,j,rfl,rfl,k,q⟩:=h
 obtain⟨t,rfl⟩:=c
 obtain⟨e,rfl⟩:=d
 exact a i j t e s _ _ k ⟨.int (g i j),H,I.tok _,⟨_,rfl⟩,q⟩
theorem opI0{f:Value->Value->Sem Value}{g:Int->Int->Int}
  (a:∀(i j:Int) (t u:Tok) (s:Shared) (Q:VP) (E:VP),Q (.int (g i j) s.toks) { s with toks:=s.toks+1 }->qd X X.A (f (.int i t) (.int j u)) Q E s) :
  OpR X f (rI0 fun i j=>.int (g i j)):=by
 intro b s k H x y v u Q I c d h
 obtain⟨i,j,rfl,rfl,q⟩:=h
 obtain⟨t,rfl⟩:=c
 obtain⟨e,rfl⟩:=d
 exact a i j t e s _ _ ⟨.int (g i j),H,I.tok _,⟨_,rfl⟩,q⟩
theorem opB0{f:Value->Value->Sem Value}{g:Int->Int->Bool}
  (a:∀(i j:Int) (t u:Tok) (s:Shared) (Q:VP) (E:VP),Q (.bool (g i j)) s->qd X X.A (f (.int i t) (.int j u)) Q E s) :
  OpR X f (rI0 fun i j=>.bl (g i j)):=by
 intro b s k H x y v u Q I c d h
 obtain⟨i,j,rfl,rfl,q⟩:=h
 obtain⟨t,rfl⟩:=c
 obtain⟨e,rfl⟩:=d
 exact a i j t e s _ _ ⟨.bl (g i j),H,I,rfl,q⟩
def CDiv(i j:Int):Prop:=0<j/\j<1073741824
def CPow(i j:Int):Prop:=0<=j/\j<=1000000/\i.natAbs<2 ^ 64
def CMul(i j:Int):Prop:=(-(2 ^ 64)<i/\i<2 ^ 64)\/(-(2 ^ 64)<j/\j<2 ^ 64)
theorem CMul.ok{i j:Int}(h:CMul i j):IntMulOk i j:=by
 rcases h with⟨b,a⟩ | ⟨b,a⟩
 .exact .of_left (intBits_le_64 b a)
 .exact .of_right (intBits_le_64 b a)
theorem Qy:OpR X (binaryOp .Add) (rI0 fun i j=>.int (i+j)):=opI0 fun _ _ _ _ _ _ _ q=>add_int q
theorem Qal:OpR X (binaryOp .Sub) (rI0 fun i j=>.int (i-j)):=opI0 fun _ _ _ _ _ _ _ q=>sub_int q
theorem Zy:OpR X (binaryOp .Mult) (rI CMul fun i j=>.int (i*j)):=opI fun _ _ _ _ _ _ _ a q=>mul_int q a.ok
theorem Xt:OpR X (binaryOp .FloorDiv) (rI CDiv fun i j=>.int (i / j)):=opI fun i j _ _ _ _ _ a q=>by
 have c:(0:Int)<j:=a.1
 have b:j<1073741824:=a.2
 exact floordiv_int Om (by rw[Int.fdiv_eq_ediv_of_nonneg i Om];exact q) (.inl (PyProof.noPylong_small Om))
theorem Xf:OpR X (binaryOp .Mod) (rI (fun _ j=>0<j) fun i j=>.int (i % j)):=opI fun i j _ _ _ _ _ a q=>by
 have b:(0:Int)<j:=a
 exact mod_int' Om (by rw[Int.fmod_eq_emod_of_nonneg i Om];exact q)
theorem Qmt:OpR X (binaryOp .Pow) (rI CPow fun i j=>.int (i ^ j.toNat)):=opI fun _ _ _ _ _ _ _ a q=>pow_int_small a.1 a.2.1 a.2.2 q
theorem unI{f:Value->Sem Value}{g:Int->Int}
  (a:∀(i:Int) (t:Tok) (s:Shared) (Q:VP) (E:VP),Q (.int (g i) s.toks) { s with toks:=s.toks+1 }->qd X X.A (f (.int i t)) Q E s) :
  UnR X f (rU fun i=>.int (g i)):=by
 intro b s d H x v Q I c h
 obtain⟨i,rfl,q⟩:=h
 obtain⟨t,rfl⟩:=c
 exact a i t s _ _ ⟨.int (g i),H,I.tok _,⟨_,rfl⟩,q⟩
theorem un_neg:UnR X (unaryOp .USub) (rU fun i=>.int (-i)):=unI fun _ _ _ _ _ q=>neg_int q
end
def scal:V->V->Bool
 |.non,.non=>true | .non,.int _=>true | .int _,.non=>true | .non,.bl _=>true | .bl _,.non=>true | .non,.str _=>true | .str _,.non=>true
 |.int _,.int _=>true | .bl _,.bl _=>true | .str _,.str _=>true | .byt _,.byt _=>true
 |.int _,.str _=>true | .str _,.int _=>true | .bl _,.str _=>true | .str _,.bl _=>true
 |_,_=>false
def rEq:R2:=fun x y H Q=>scal x y=true/\Q (.bl (decide (x=y))) H
def rNe:R2:=fun x y H Q=>scal x y=true/\Q (.bl (!decide (x=y))) H
theorem Qmu{i j:Int}:decide (V.int i=V.int j)=(i == j):=by
 rw[jJc]
 simp
theorem Quq{i j:Bool}:decide (V.bl i=V.bl j)=(i == j):=by
 rw[jJc]
 simp
theorem Qmv{i j:Str}:decide (V.str i=V.str j)=(i == j):=by
 rw[jJc]
 simp
theorem Qmw{i j:Array UInt8}:decide (V.byt i=V.byt j)=(i.toList == j.toList):=by
 rw[jJc]
 cases i
 cases j
 simp
section
variable{X:Cx}{a b c:Expr}{ta tb tc:TE}
theorem Xz{σ:St}{Q:VK}{k k':Bool}(I:Inv X pins σ H s)(q:Q (.bl k) H)(e:k=k'):EP X pins σ Q (.bool k') s:=by
 subst e
 exists .bl k,H,I,rfl,q
theorem Ye:OpR X (compareOp .Eq) rEq:=by
 intro e s f H x y v u Q I d a h
 obtain⟨c,q⟩:=h
 cases x with
 |non=>
  cases d
  cases y with
  |non=>cases a;exact PySem.EqNone.eq_none_none (Xz I q (by simp))
  |bl j=>cases a;exact PySem.EqNone.eq_none_bool (Xz I q (by simp))
  |int j=>obtain⟨b,rfl⟩:=a;exact PySem.EqNone.eq_none_int (Xz I q (by simp))
  |str j=>obtain⟨b,rfl⟩:=a;exact PySem.EqNone.eq_none_str (Xz I q (by simp))
  |_=>exact Y21 (show false=true from c) yY
 |bl i=>
  cases d
  cases y with
  |non=>cases a;exact PySem.EqNone.eq_bool_none (Xz I q (by simp))
  |bl j=>cases a;exact eq_bool (Xz I q Quq)
  |str j=>obtain⟨b,rfl⟩:=a;exact PySem.EqMixed.eq_bool_str (Xz I q (by simp))
  |_=>exact Y21 (show false=true from c) yY
 |int i=>
  obtain⟨t,rfl⟩:=d
  cases y with
  |non=>cases a;exact PySem.EqNone.eq_int_none (Xz I q (by simp))
  |int j=>obtain⟨b,rfl⟩:=a;exact eq_int (Xz I q Qmu)
  |str j=>obtain⟨b,rfl⟩:=a;exact PySem.EqMixed.eq_int_str (Xz I q (by simp))
  |_=>exact Y21 (show false=true from c) yY
 |str i=>
  obtain⟨t,rfl⟩:=d
  cases y with
  |non=>cases a;exact PySem.EqNone.eq_str_none (Xz I q (by simp))
  |bl j=>cases a;exact PySem.EqMixed.eq_str_bool (Xz I q (by simp))
  |int j=>obtain⟨b,rfl⟩:=a;exact PySem.EqMixed.eq_str_int (Xz I q (by simp))
  |str j=>obtain⟨b,rfl⟩:=a;exact eq_str (Xz I q Qmv)
  |_=>exact Y21 (show false=true from c) yY
 |byt i=>
  obtain⟨t,rfl⟩:=d
  cases y with
  |byt j=>obtain⟨b,rfl⟩:=a;exact PySem.W.eq_bytes (Xz I q Qmw)
  |_=>exact Y21 (show false=true from c) yY
 |_=>cases y<;>exact Y21 (show false=true from c) yY
theorem Wb:OpR X (compareOp .NotEq) rNe:=by
 intro e s f H x y v u Q I d a h
 obtain⟨c,q⟩:=h
 cases x with
 |non=>
  cases d
  cases y with
  |non=>cases a;exact PySem.EqNone.ne_none_none (Xz I q (by simp))
  |bl j=>cases a;exact PySem.EqNone.ne_none_bool (Xz I q (by simp))
  |int j=>obtain⟨b,rfl⟩:=a;exact PySem.EqNone.ne_none_int (Xz I q (by simp))
  |str j=>obtain⟨b,rfl⟩:=a;exact PySem.EqNone.ne_none_str (Xz I q (by simp))
  |_=>exact Y21 (show false=true from c) yY
 |bl i=>
  cases d
  cases y with
  |non=>cases a;exact PySem.EqNone.ne_bool_none (Xz I q (by simp))
  |bl j=>cases a;exact ne_bool (Xz I q (congrArg not Quq))
  |str j=>obtain⟨b,rfl⟩:=a;exact PySem.EqMixed.ne_bool_str (Xz I q (by simp))
  |_=>exact Y21 (show false=true from c) yY
 |int i=>
  obtain⟨t,rfl⟩:=d
  cases y with
  |non=>cases a;exact PySem.EqNone.ne_int_none (Xz I q (by simp))
  |int j=>obtain⟨b,rfl⟩:=a;exact ne_int (Xz I q (congrArg not Qmu))
  |str j=>obtain⟨b,rfl⟩:=a;exact PySem.EqMixed.ne_int_str (Xz I q (by simp))
  |_=>exact Y21 (show false=true from c) yY
 |str i=>
  obtain⟨t,rfl⟩:=d
  cases y with
  |non=>cases a;exact PySem.EqNone.ne_str_none (Xz I q (by simp))
  |bl j=>cases a;exact PySem.EqMixed.ne_str_bool (Xz I q (by simp))
  |int j=>obtain⟨b,rfl⟩:=a;exact PySem.EqMixed.ne_str_int (Xz I q (by simp))
  |str j=>obtain⟨b,rfl⟩:=a;exact ne_str (Xz I q (congrArg not Qmv))
  |_=>exact Y21 (show false=true from c) yY
 |byt i=>
  obtain⟨t,rfl⟩:=d
  cases y with
  |byt j=>obtain⟨b,rfl⟩:=a;exact PySem.W.ne_bytes (Xz I q (congrArg not Qmw))
  |_=>exact Y21 (show false=true from c) yY
 |_=>cases y<;>exact Y21 (show false=true from c) yY
theorem Qam:OpR X (compareOp .Lt) (rI0 fun i j=>.bl (decide (i<j))):=opB0 fun _ _ _ _ _ _ _ q=>lt_int q
theorem Wz:OpR X (compareOp .LtE) (rI0 fun i j=>.bl (decide (i<=j))):=opB0 fun _ _ _ _ _ _ _ q=>le_int q
theorem Qcj:OpR X (compareOp .Gt) (rI0 fun i j=>.bl (decide (j<i))):=opB0 fun _ _ _ _ _ _ _ q=>gt_int q
theorem Qwb:OpR X (compareOp .GtE) (rI0 fun i j=>.bl (decide (j<=i))):=opB0 fun _ _ _ _ _ _ _ q=>ge_int q
theorem Qiz:OpR X (compareOp .Is) (fun x y H Q=>y=.non/\Q (.bl (decide (x=.non))) H):=by
 intro b s d H x y v u Q I a c h
 obtain⟨rfl,q⟩:=h
 cases c
 refine is_none_gen (Xz I q ?_)
 cases x<;>first
  |(cases a;rfl)
  |(obtain⟨t,rfl⟩:=a;rfl)
theorem Qdp:OpR X (compareOp .IsNot) (fun x y H Q=>y=.non/\Q (.bl (!decide (x=.non))) H):=by
 intro b s d H x y v u Q I a c h
 obtain⟨rfl,q⟩:=h
 cases c
 refine isnot_none_gen (Xz I q ?_)
 cases x<;>first
  |(cases a;rfl)
  |(obtain⟨t,rfl⟩:=a;rfl)
theorem Qp(b:Expr){op:CmpOp}(h:qc (op≠.In))(a:qc (op≠.NotIn)):behindInMarks op b=false:=by
 have d:(op == CmpOp.In)=false:=by cases op<;>first | rfl | exact Y21 rfl h
 have c:(op == CmpOp.NotIn)=false:=by cases op<;>first | rfl | exact Y21 rfl a
 cases b<;>simp[behindInMarks,d,c]
theorem Jg{op:CmpOp}{r:R2}(g:OpR X (compareOp op) r)(e:PE X a ta)(d:PE X b tb)(m:behindInMarks op b=false):PE X (.Compare a [op] [b] pos) (tOp r ta tb):=by
 intro c s j H Q I h
 exact wpAny_Compare1 (binT e d I h fun v u n x y k l f i q=>g c n j k x y v u Q l f i q) m
inductive tTk(Q:Bool->Hp->Prop)(x:V)(H:Hp):Prop|mk(k:Bool)(h:x=.bl k)(q:Q k H):tTk Q x H
def tTest(t:TE):TT:=fun σ H Q=>t σ H (tTk Q)
theorem Ql{op:CmpOp}{r:R2}(j:OpR X (compareOp op) r)(i:PE X a ta)(g:PE X b tb)(l:behindInMarks op b=false):PT X (.Compare a [op] [b] pos) (tTest (tOp r ta tb)):=by
 intro d s f H Q I h
 refine wpAny_isTrue_Compare1 (thn (i d s f H _ I h) fun v s1 ⟨x,H1,I1,r1,q1⟩=>thn (g d s1 f H1 _ I1 q1) fun u s2 ⟨y,H2,I2,r2,q2⟩=>
  thn (j d s2 f H2 x y v u _ I2 r1 r2 q2) fun c s3 ⟨z,H3,I3,r3,k,e,q3⟩=>?_) l
 subst e
 cases r3
 exact Y31 ⟨H3,I3,q3⟩
def Qur(r r':R2)(ta tb tc:TE):TE:=fun σ H Q=>ta σ H fun x H1=>tb σ H1 fun y H2=>r x y H2 fun z H3=>∃k,z=.bl k /\
 (if k=true then tc σ H3 fun w' H4=>r' y w' H4 Q else Q (.bl false) H3)
theorem Qdq{op op':CmpOp}{r r':R2}(m:OpR X (compareOp op) r)(i:OpR X (compareOp op') r')(l:PE X a ta)(j:PE X b tb)(n:PE X c tc)
  (o:lastMarks [op,op'] [b,c]=false:=by with_unfolding_all rfl):PE X (.Compare a [op,op'] [b,c] pos) (Qur r r' ta tb tc):=by
 intro f s g H Q I h
 refine Compare_chain (thn (l f s g H _ I h) fun v s1 ⟨x,H1,I1,r1,q1⟩=>chain_link (thn (j f s1 g H1 _ I1 q1) fun u s2 ⟨y,H2,I2,r2,q2⟩=>
  thn (m f s2 g H2 x y v u _ I2 r1 r2 q2) fun d s3 ⟨z,H3,I3,r3,k,e,q3⟩=>?_)) o
 subst e
 cases r3
 refine Y31 ?_
 cases k with
 |false=>exact ite_ff ⟨.bl false,H3,I3,rfl,q3⟩
 |true=>exact ite_tt (chain_last (thn (n f s3 g H3 _ I3 q3) fun w' s4 ⟨z',H4,I4,r4,q4⟩=>i f s4 g H4 y z' u w' Q I4 r2 r4 q4))
theorem Qdr{op op':CmpOp}{r r':R2}(B:OpR X (compareOp op) r)(j:OpR X (compareOp op') r')(t:PE X a ta)(p:PE X b tb)(o:PE X c tc)
  (D:lastMarks [op,op'] [b,c]=false:=by with_unfolding_all rfl):PT X (.Compare a [op,op'] [b,c] pos) (tTest (Qur r r' ta tb tc)):=by
 intro f s g H Q I h
 refine isTrue_chain (thn (t f s g H _ I h) fun v s1 ⟨x,H1,I1,r1,q1⟩=>test_link (thn (p f s1 g H1 _ I1 q1) fun u s2 ⟨y,H2,I2,r2,q2⟩=>
  thn (B f s2 g H2 x y v u _ I2 r1 r2 q2) fun d s3 ⟨z,H3,I3,r3,k,e,q3⟩=>?_)) D
 subst e
 cases r3
 refine Y31 ?_
 cases k with
 |false=>
  obtain⟨K,m,n⟩:=q3
  cases m
  exact ite_ff ⟨H3,I3,n⟩
 |true=>
  refine ite_tt (test_last (thn (o f s3 g H3 _ I3 q3) fun w' s4 ⟨z',H4,I4,r4,q4⟩=>thn (j f s4 g H4 y z' u w' _ I4 r2 r4 q4) fun M L i=>?_))
  obtain⟨J,C,F,E,G,A,l⟩:=i
  subst A
  cases E
  exact Y31 ⟨C,F,l⟩
theorem Qcr:(sizeLine:Nat)<2 ^ 63:=by rw[sizeLine_eq];decide
theorem Qz:OpR X (binaryOp .Add) (fun x y H Q=>∃i j,x=.str i/\y=.str j/\i.length+j.length<=sizeLine/\Q (.str (i++j)) H):=by
 intro a s g H x y v u Q I c d h
 obtain⟨i,j,rfl,rfl,b,q⟩:=h
 obtain⟨t,rfl⟩:=c
 obtain⟨e,rfl⟩:=d
 exact add_str (fun e f=>⟨.str (i++j),H,I.tok _,⟨_,rfl⟩,q⟩) b
theorem vals1{x:V}(r:Vals [x] us):∃u,us=[u]/\RelV x u:=by
 cases r with
 |cons r1 r2=>cases r2;exists _,rfl,r1
theorem vals2{x:V}(r:Vals [x,y] us):∃u w',us=[u,w']/\RelV x u/\RelV y w':=by
 cases r with
 |cons r1 r2=>
  cases r2 with
  |cons r3 r4=>cases r4;exists _,_,rfl,r1,r3
theorem Qan(c:X.calm=true):CallR X (.builtin "min") (fun xs H Q=>∃i j,xs=[.int i,.int j]/\Q (.int (if j<i then j else i)) H):=by
 intro b s e H xs l Q I r h
 obtain⟨i,j,rfl,q⟩:=h
 obtain⟨u,m,rfl,⟨t,rfl⟩,⟨g,rfl⟩⟩:=vals2 r
 refine min_two_ints (I.ok.hd c) fun d f k=>⟨_,H,I.kept k,?_,q⟩
 by_cases a:j<i
 .rw[Y22 a,Y22 a];exists _,rfl
 .rw[Y20 a,Y20 a];exists _,rfl
theorem Qmx:CallR X (.type "int") (fun xs H Q=>(∃i,xs=[.int i]/\Q (.int i) H)\/∃k,xs=[.bl k]/\Q (.int (if k then 1 else 0)) H):=by
 intro a s d H xs c Q I r h
 rcases h with⟨i,rfl,q⟩ | ⟨k,rfl,q⟩
 .obtain⟨u,rfl,t,rfl⟩:=vals1 r
  exact call_int_int ⟨.int i,H,I,⟨_,rfl⟩,q⟩
 .obtain⟨u,rfl,b⟩:=vals1 r
  cases b
  exact call_int_bool ⟨.int (if k then 1 else 0),H,I.tok _,⟨_,rfl⟩,q⟩
end
structure ObjM(h:Heap)(x dx C:Addr)(mA:Z9):Prop where
 obj:h.get? x=some (PySem.W.instObj C dx)
 ns:h.Ns1 dx mA
 ne:dx≠x
theorem Qmy{h:Heap}(n:h.Ns1 dx mA):∃od,h.get? dx=some od/\∀name,PySem.W.lookIn name od=some (mA name):=by
 obtain⟨o,c,l,i,g,d,_,k⟩:=n
 exists o,i,fun name=>?_
 have e:=k name
 unfold nsFind findBy at e
 rw[<-Array.find?_toList]at e
 unfold PySem.W.lookIn
 rw[g]
 dsimp only
 split
 .rename_i y q
  rw[q]at e
  exact congrArg some e
 .rename_i q
  rw[q]at e
  have a:c.toList.any (·.refKey)=false:=by
   rw[List.any_eq_false]
   intro y f
   obtain⟨z,t,b⟩:=d y (Array.mem_toList_iff.mp f)
   simp[DictEntry.refKey,b]
  have j:¬c.toList.any (·.refKey)=true:=by rw[a];exact yY
  rw[Y20 j]
  exact congrArg some e
theorem ObjM.look{h:Heap}{x:Addr}(I:ObjM h x dx C mA):∃od,PySem.W.InstAt h x (PySem.W.instObj C dx) C (some od)/\∀name,PySem.W.lookIn name od=some (mA name) :=
 let ⟨od,ho,hl⟩:=Qmy I.ns
 ⟨od,⟨I.obj,rfl,rfl,ho⟩,hl⟩
section
variable{w:World}{x:Addr}{name:Str}{v:Value}
theorem get_map{Q:VP}(X:K.In s.heap)(I:ObjM s.heap x dx C mA)(b:PySem.W.plainGet K C name=true)(e:PySem.W.hasDictIn K C=true)
  (d:PySem.W.findIn K (.ref C) name=some none) (c:mA name=some v) (a:PySem.W.handedIn v=true) (h:Q v { s with toks:=s.toks+1 }) :
  qe prog w A (getAttr (.ref x) name expr) Q E s:=by
 obtain⟨g,J,f⟩:=I.look
 exact PySem.W.get_value X J (PySem.W.plainGet_of b).1 (PySem.W.findObj_own e d rfl (by rw[f,c])) a h
theorem Qrl{pl:Sem Bool}{Q:Value×List Value->Shared->Prop}(X:K.In s.heap)(I:ObjM s.heap x dx C mA)(a:PySem.W.plainGet K C name=true)
  (g:PySem.W.findIn K (.ref C) name=some (some (.ref f))) (d:PySem.W.isFn K (.ref f)=true) (b:mA name=none) (h:Q (.ref f,[.ref x]) s) :
  qe prog w A (getMethod (.ref x) name pl) Q E s:=by
 obtain⟨c,J,e⟩:=I.look
 exact PySem.W.method_fn X J (PySem.W.plainGet_of a).1 (PySem.W.plainGet_of a).2 g (beq_iff_eq.mp d) (by show(PySem.W.lookIn name c).map (·.isSome)=some false;rw[e,b];rfl) h
theorem Qwc{Q:Unit->Shared->Prop}(X:K.In s.heap)(I:ObjM s.heap x dx C mA)
  (o:PySem.W.findIn K (.ref C) "__setattr__"=some (some (.builtin "object.__setattr__"))) (n:PySem.W.plainOver K C=true) (j:PySem.W.takerIn K C name=some none) (q:PySem.W.hasDictIn K C=true)
  (p:PySem.Within mA ns) (hsz:ns.length<=sizeLine)
  (h:∀h',ObjM h' x dx C (fun y=>if y=name then some v else mA y)->Heap.SameBut dx s.heap h'->Q () { s with heap:=h',toks:=s.toks+2 }) :
  qe prog w A (setAttr (.ref x) name v) Q E s:=by
 obtain⟨u,J,D⟩:=I.look
 refine PySem.W.set_plain X J o (PySem.W.osa_open (s:={ s with toks:=s.toks+1 }) (r:=none) X J n j fun b=>?_)
 obtain⟨z,k,i⟩:=PySem.W.any_some q
 have l:s.heap.get? x=some ⟨.ref C,some dx,.plain,#[]⟩:=I.obj
 refine jQ (kQ (jQ (jQ (wpAny_loadPart l (jQ (PySem.W.Looks.here (s:={ s with toks:=s.toks+1 }) (PySem.W.looks_clsIn X k) ?_))))))
 rw[i]
 refine kQ (a:=some dx) (jQ (kQ (jQ ?_)))
 refine wpAny_nsSet1 (s:={ s with toks:=s.toks+1 }) I.ns fun h' d c=>?_
 obtain⟨B,m,t,f,g,e⟩:=d.count (PySem.Within.cons name v p)
 refine jQ (wpAny_lookBehind f (by rw[g];exact pastItsLine_dict (wZ e (by rw[yQ];lia))) ?_)
 exact kQ (h _ ⟨(c.2 _ (Ne.symm I.ne)).trans I.obj,d,I.ne⟩ c)
theorem Qrm{vs:List Value}(X:K.In s.heap)(e:PySem.W.makesIn K C=true)
  (c:PySem.W.findIn K (.ref C) "__init__"=some (some (.ref f))) (b:PySem.W.typeIn K (.ref f)=some (.type "function"))
  (h:codeAny (model prog w) (A.under (.builtin "type.__call__" ⟨.ref C::vs,kw⟩)) (.call (.ref f) ⟨.ref ((qa s)+1)::vs,kw⟩) (PySem.W.InitBack ((qa s)+1) R)
   { s with heap:=(s.heap.push PySem.W.emptyDict).push (PySem.W.instObj C (qa s)) }) :
  codeAny (model prog w) A (.call (.ref C) ⟨vs,kw⟩) R s:=by
 obtain⟨i,g,d,t,j⟩:=s
 exact PySem.W.make_core (PySem.W.makes_of X e) (PySem.W.looks_findIn X c) (fun a=>PySem.W.bind_fn X a b) (.inl rfl) h
end
def putF(f:Str)(v:V):List (Str×V)->List (Str×V)
 |[]=>[(f,v)]
 |(g,x)::r=>if g=f then(g,v)::r else(g,x)::putF f v r
theorem Qao(f g:Str)(v:V):∀fs:List (Str×V),(putF f v fs).lookup g=if g=f then some v else fs.lookup g
 |[]=>by
  show List.lookup g [(f,v)]=_
  by_cases h:g=f
  .have a:(g == f)=true:=beq_iff_eq.mpr h
   simp only[List.lookup,a,Y22 h]
  .have a:(g == f)=false:=beq_eq_false_iff_ne.mpr h
   simp only[List.lookup,a,Y20 h]
 |(k,x)::r=>by
  have c:=Qao f g v r
  rw[show putF f v ((k,x)::r)=(if k=f then(k,v)::r else(k,x)::putF f v r)from rfl]
  by_cases b:k=f
  .rw[Y22 b]
   by_cases h:g=k
   .have a:(g == k)=true:=beq_iff_eq.mpr h
    simp only[List.lookup,a,Y22 (h.trans b)]
   .have a:(g == k)=false:=beq_eq_false_iff_ne.mpr h
    simp only[List.lookup,a,Y20 (fun e:g=f=>h (e.trans b.symm))]
  .rw[Y20 b]
   by_cases h:g=k
   .have a:(g == k)=true:=beq_iff_eq.mpr h
    simp only[List.lookup,a,Y20 (fun e:g=f=>b (h.symm.trans e))]
   .have a:(g == k)=false:=beq_eq_false_iff_ne.mpr h
    simp only[List.lookup,a]
    exact c
theorem Qap(f:Str)(v:V):∀fs:List (Str×V),f∈(putF f v fs).map (·.1)/\∀g,g∈fs.map (·.1)->g∈(putF f v fs).map (·.1)
 |[]=>⟨by simp[putF],fun g h=>by simp at h⟩
 |(k,x)::r=>by
  obtain⟨c,b⟩:=Qap f v r
  rw[show putF f v ((k,x)::r)=(if k=f then(k,v)::r else(k,x)::putF f v r)from rfl]
  by_cases a:k=f
  .rw[Y22 a]
   subst a
   exists by simp,fun g h=>by simpa using h
  .rw[Y20 a]
   exists ?_,fun g h=>?_
   .rw[zX]
    exact kJ _ c
   .rw[zX]at h⊢
    rcases kK.mp h with e | e
    .exact kK.mpr (.inl e)
    .exact kJ _ (b g e)
theorem Kx(f:Str)(v:V):∀fs:List (Str×V),(putF f v fs).length<=fs.length+1
 |[]=>by simp[putF]
 |(k,x)::r=>by
  have b:=Kx f v r
  rw[show putF f v ((k,x)::r)=(if k=f then(k,v)::r else(k,x)::putF f v r)from rfl]
  by_cases a:k=f
  .rw[Y22 a,yQ,yQ];lia
  .rw[Y20 a,yQ,yQ];lia
theorem RelO.some_of{v:V}{o:Option Value}(r:RelO (some v) o):∃u,o=some u/\RelV v u:=by
 cases o with
 |none=>exact(show False from r).elim
 |some u=>exists u,rfl,r
theorem RelO.none_of{o:Option Value}(r:RelO none o):o=none:=by
 cases o with
 |none=>rfl
 |some u=>exact(show False from r).elim
theorem Qaq{v:V}(r:RelV v u):PySem.W.handedIn u=true:=by
 cases v with
 |non=>cases(show u=Value.none from r);rfl
 |bl b=>cases(show u=Value.bool b from r);rfl
 |int i=>obtain⟨t,e⟩:=(show ∃t,u=Value.int i t from r);cases e;rfl
 |str x=>obtain⟨t,e⟩:=(show ∃t,u=Value.str x t from r);cases e;rfl
 |byt b=>obtain⟨t,e⟩:=(show ∃t,u=Value.bytes b t from r);cases e;rfl
 |flt b=>obtain⟨t,e⟩:=(show ∃t,u=Value.float b t from r);cases e;rfl
 |ref a=>cases(show u=Value.ref a from r);rfl
 |ty n=>cases(show u=Value.type n from r);rfl
section
variable{w:World}{h:Heap}{fs:List (Str×V)}
theorem Qhh(b:HOk P w H h)(e:H a=some (.ins C dx fs)):∃mA,ObjM h a dx C mA/\(∀f,RelO (fs.lookup f) (mA f))/\PySem.Within mA (fs.map (·.1))/\fs.length<=1000/\H dx=some (.own a):=by
 obtain⟨d,z,g,c,mA,n,r,q⟩:=(show ObjOk P w H h a (.ins C dx fs)from b a _ e)
 exists mA,⟨c,n,g⟩,r,q,z,d
end
structure Cls(K:Fg)(C:Addr):Prop where
 pg:PySem.W.plainGet K C Str.empty=true
 hd:PySem.W.hasDictIn K C=true
 po:PySem.W.plainOver K C=true
 sa:PySem.W.findIn K (.ref C) "__setattr__"=some (some (.builtin "object.__setattr__"))
theorem Cls.get(c:Cls K C)(f:Str):PySem.W.plainGet K C f=true:=c.pg
def NoAttr(K:Fg)(C:Addr)(f:Str):Prop:=PySem.W.findIn K (.ref C) f=some none
theorem NoAttr.taker{f:Str}(n:NoAttr K C f):PySem.W.takerIn K C f=some none:=by
 unfold PySem.W.takerIn
 rw[show PySem.W.findIn K (.ref C) f=some none from n]
 rfl
structure Meth(K:Fg)(C:Addr)(m:Str)(f:Addr):Prop where
 at_:PySem.W.findIn K (.ref C) m=some (some (.ref f))
 fn:PySem.W.isFn K (.ref f)=true
 kp:PySem.W.keepIn K (.ref f)=true
section
variable{X:Cx}{σ:St}{fs:List (Str×V)}{f:Str}{v:V}
theorem Qlc{b:Bool}{Q:VP}(I:Inv X pins σ H s)(e:H a=some (.ins C dx fs))(c:Cls X.K C)(n:NoAttr X.K C f)(l:fs.lookup f=some v)
  (h:∀u s',Inv X pins σ H s'->RelV v u->Q u s'):qd X A (getAttr (.ref a) f b) Q E s:=by
 obtain⟨g,O,r,_,_,_⟩:=Qhh I.hok e
 obtain⟨u,i,d⟩:=RelO.some_of (v:=v) (o:=g f) (by rw[<-l];exact r f)
 exact get_map I.kIn O (c.get f) c.hd n i (Qaq d) (h u _ (I.tok _) d)
theorem Qcs{m:Str}{g:Addr}{pl:Sem Bool}{Q:Value×List Value->Shared->Prop}(I:Inv X pins σ H s)(e:H a=some (.ins C dx fs))(c:Cls X.K C)(k:Meth X.K C m g)(l:fs.lookup m=none)
  (h:Q (.ref g,[.ref a]) s):qd X A (getMethod (.ref a) m pl) Q E s:=by
 obtain⟨b,O,r,_,_,_⟩:=Qhh I.hok e
 have d:b m=none:=RelO.none_of (by rw[<-l];exact r m)
 exact Qrl I.kIn O (c.get m) k.at_ k.fn d h
theorem Qld{Q:Unit->Shared->Prop}(I:Inv X pins σ H s)(e:H a=some (.ins C dx fs))(c:Cls X.K C)(n:NoAttr X.K C f)(F:fs.length<1000)(B:RelV y u)
  (h:∀s',Inv X pins σ (upd H a (.ins C dx (putF f y fs))) s'->Q () s'):qd X A (setAttr (.ref a) f u) Q E s:=by
 obtain⟨i,O,r,j,_,k⟩:=Qhh I.hok e
 have p:(fs.map (·.1)).length<=sizeLine:=by rw[jX,sizeLine_eq];lia
 refine Qwc I.kIn O c.sa c.po n.taker c.hd j p fun D d l=>h _ ?_
 have t:∃o,D.get? dx=some o:=let ⟨o,_,_,e',_⟩:=d.ns;⟨o,e'⟩
 refine I.write (x:=a) (e:=dx) (by rw[e];exact True.intro) (.inr k) (fun b q m z=>(l.2 b m).trans z) t ?_
 exists by rw[Qj O.ne];exact k,?_,O.ne,d.obj,_,d.ns,fun g=>?_,fun g v=>?_
 .have:=Kx f y fs;lia
 .show RelO ((putF f y fs).lookup g) (if g=f then some u else i g)
  rw[Qao]
  by_cases q:g=f
  .rw[Y22 q,Y22 q];exact B
  .rw[Y20 q,Y20 q];exact r g
 .by_cases q:g=f
  .rw[q];exact(Qap f y fs).1
  .refine(Qap f y fs).2 g (j g fun z=>v ?_)
   show(if g=f then some u else i g)=none
   rw[Y20 q];exact z
theorem Inv.made(I:Inv X pins σ H s):Inv X pins σ (upd (upd H (qa s) (.own ((qa s)+1))) ((qa s)+1) (.ins C (qa s) []))
  { s with heap:=(s.heap.push PySem.W.emptyDict).push (PySem.W.instObj C (qa s)) }:=by
 have c:(s.heap.push PySem.W.emptyDict).get? (qa s)=some PySem.W.emptyDict:=yJ s.heap rfl
 have k:((s.heap.push PySem.W.emptyDict).push (PySem.W.instObj C (qa s))).get? ((qa s)+1)=some (PySem.W.instObj C (qa s)):=by
  have:=yJ (s.heap.push PySem.W.emptyDict) (o:=PySem.W.instObj C (qa s)) rfl
  rwa [jJd]at this
 have j:(s.heap.push PySem.W.emptyDict).Ns (qa s) (fun _=>none):=⟨PySem.W.emptyDict,#[],_,c,rfl,(fun e i=>Y21 i (by simp)),fun _=>rfl⟩
 have f:=I.laid (a:=(qa s)) (o:=.own ((qa s)+1)) (h':=s.heap.push PySem.W.emptyDict) (t':=s.toks) (fun b u q=>jW _ q) (jJ _) ⟨_,c⟩
 refine f.laid (a:=(qa s)+1) (o:=.ins C (qa s) []) (t':=s.toks) (fun b u q=>jW _ q) (kJf (jJd _ _)) ?_
 have d:(qa s)≠(qa s)+1:=xZ (Nat.lt_succ_self _)
 exists by rw[Qj d,Qc],wJ _,d,k,fun _=>none,(Heap.Ns1.of_empty j).at fun o q=>jW _ q,fun _=>True.intro,fun y g=>Y21 rfl g
theorem Qhi{w:World}{env:Env}{Q:VP}(a:attributeBase e f env (eval e env)=eval e env)
  (h:qe prog w A (eval e env) (fun o s₁=>qe prog w A (getAttr o f true) Q E s₁) E s):qe prog w A (eval (.Attribute e f pos) env) Q E s :=
 Attribute_any_ h (by rw[arm_eval_Attribute,a])
end
def tFld(K:Fg)(ta:TE)(f:Str):TE:=fun σ H Q=>ta σ H fun x H1=>∃a C dx fs v,x=.ref a/\H1 a=some (.ins C dx fs)/\Cls K C/\NoAttr K C f/\fs.lookup f=some v/\Q v H1
def sFld(K:Fg)(ta tv:TE)(f:Str):TS:=fun D σ H=>tv σ H fun y H1=>ta σ H1 fun x H2=>∃a C dx fs,x=.ref a/\H2 a=some (.ins C dx fs)/\Cls K C/\NoAttr K C f/\fs.length<1000 /\
 D.nx σ (upd H2 a (.ins C dx (putF f y fs)))
section
variable{X:Cx}{o value:Expr}{f:Str}{ta tv:TE}
theorem Yq(he:PE X e ta)(i:attributeBase e f X.env (eval e X.env)=eval e X.env):PE X (.Attribute e f pos) (tFld X.K ta f):=by
 intro b s m H Q I h
 refine Qhi i (thn (he b s m H _ I h) fun u y d=>?_)
 obtain⟨x,o,g,j,a,C,w,fs,v,ex,p,c,n,l,q⟩:=d
 subst ex
 obtain rfl:u=Value.ref a:=j
 exact Qlc g p c n l fun t z r k=>⟨v,o,r,k,q⟩
theorem Qar(j:PE X o ta)(m:PE X value tv)(p:swapsWith value (some (.Attribute o f pos')) pos.line X.env=pure false):PS X (.Assign [.Attribute o f pos'] value pos) (sFld X.K ta tv f):=by
 intro b s e H D I h
 refine plainObj_wpAny_Assign_Attribute (thn (m b s e H _ I h) fun u s1 ⟨y,H1,I1,ry,q⟩=>thn (j b s1 e H1 _ I1 q) fun t B d=>?_) p
 obtain⟨x,A,v,k,a,C,z,fs,ex,r,c,n,l,g⟩:=d
 subst ex
 obtain rfl:t=Value.ref a:=k
 exact Qld v r c n l ry fun w i=>⟨e,_,i,g⟩
end
structure Room(k:Nat)(A:Around):Prop where
 hd:A.handled=none
 dp:A.depth+3*k+5<recursionLimit
 un:A.units+16*k+200<cLine
theorem Room.mono{k:Nat}(r:Room k A)(h:j<=k):Room j A:=⟨r.hd,by have:=r.dp;lia,by have:=r.un;lia⟩
theorem Room.deeper{k:Nat}(r:Room (k+1) A)(env:Env):Room k (A.deeper env) :=
 ⟨r.hd,by have:=r.dp;show A.depth+1+3*k+5<_;lia,by have:=r.un;show A.units+3+16*k+200<_;lia⟩
theorem Qle:(A.under (.builtin "type.__call__" ⟨.ref C::us,kw⟩)).depth=A.depth+1:=by
 first | rfl | simp[Around.under,Code.weight,Code.isCreation,Code.isGuard,Code.isCaller,Code.frames,Code.isFrame,guardIds]
theorem Qlf:(A.under (.builtin "type.__call__" ⟨.ref C::us,kw⟩)).units=A.units+1:=by
 first | rfl | simp[Around.under,Code.cUnits,Code.frames,Code.isFrame]
theorem Room.make{k:Nat}(r:Room (k+1) A)(C:Addr)(us:List Value)(a:List (Str×Value)):Room k (A.under (.builtin "type.__call__" ⟨.ref C::us,a⟩)) :=
 ⟨r.hd,by have:=r.dp;rw[Qle];lia,by have:=r.un;rw[Qlf];lia⟩
theorem Room.depth{k:Nat}(r:Room k A):A.depth<recursionLimit:=by have:=r.dp;lia
theorem Room.units{k:Nat}(r:Room k A):A.units+64<cLine:=by have:=r.un;lia
def tNil:TA:=fun _ H Q=>Q [] H
def tCons(ta:TE)(tr:TA):TA:=fun σ H Q=>ta σ H fun x H1=>tr σ H1 fun xs H2=>Q (x::xs) H2
section
variable{X:Cx}{te:TE}{t:TA}
theorem Qf:PA X [] tNil:=fun _ _ _ _ H Q I h=>Calls.spliced_nil ⟨[],H,I,.nil,h⟩
theorem Qa(j:PE X e te)(f:PA X es t)(k:qb (starEach (e::es) X.env=(false,eval e X.env)::starEach es X.env)):PA X (e::es) (tCons te t):=by
 intro b a s d H Q I h
 rw[k]
 show wpAny _ _ (spliced ((false,eval e X.env)::backTo b (starEach es X.env))) _ _ s
 refine Y57 (thn (j a s d H _ I h) fun u m c=>?_)
 obtain⟨x,l,g,i,n⟩:=c
 exact thn (f b a m d l _ g n) fun us s2 ⟨xs,H2,I2,r2,q2⟩=>⟨x::xs,H2,I2,.cons i r2,q2⟩
def tTup(t:TA):TE:=fun σ H Q=>t σ H fun xs H1=>xs.length<=sizeLine/\∀p,H1 p=none->Q (.ref p) (upd H1 p (.tup xs))
def tLst(t:TA):TE:=fun σ H Q=>t σ H fun xs H1=>xs.length<=sizeLine/\∀p,H1 p=none->Q (.ref p) (upd H1 p (.lst xs))
theorem Yf{x1}(h:PA X es t):PE X (.Tuple es x1 pos) (tTup t):=by
 intro a s d H Q I f
 refine wpAny_Tuple_spliced (thn (h pos a s d H _ I f) fun us s1 ⟨xs,H1,I1,r,z,q⟩=>⟨by rw[<-r.length];exact z,?_⟩)
 have c:H1 (qa s1)=none:=I1.hok.fresh (jJ _)
 exists .ref (qa s1),upd H1 (qa s1) (.tup xs),I1.laid (t':=s1.toks) (fun b u e=>jW _ e) (jJ _) ?_,rfl,q _ c
 exists z,us,r,⟨_,yJ _ rfl,rfl,_,rfl⟩
theorem Xg(h:PA X es t):PE X (.List es pos) (tLst t):=by
 intro a s d H Q I f
 refine wpAny_List_spliced (thn (h pos a s d H _ I f) fun us s1 ⟨xs,H1,I1,r,z,q⟩=>⟨by rw[<-r.length];exact z,?_⟩)
 have c:H1 (qa s1)=none:=I1.hok.fresh (jJ _)
 exists .ref (qa s1),upd H1 (qa s1) (.lst xs),I1.laid (t':=s1.toks) (fun b u e=>jW _ e) (jJ _) ?_,rfl,q _ c
 exists z,us,0,r,yJ _ rfl
end
abbrev Sp:=List V->Hp->VK->XK->Prop
abbrev CXT:=List Env->Hp->Shared->XK->Value->Shared->Prop
structure Env0(P:Program)(w:World)(K:Fg)(mg:Z9)(base:Heap)(A:Around)(outer:List Env)(s:Shared)(H:Hp):Prop where
 frames:A.frames=some outer
 mod:Mod K mg base
 bs:∀b o,base.get? b=some o->s.heap.get? b=some o/\H b=none
 bsz:base.objs.size<=(qa s)
 funs:s.heap.FunFrames base outer
 frf:∀b∈frs outer,H b=none
 hok:HOk P w H s.heap
 bare:AllBare s.gens
def CE(outer:List Env)(P:Program)(w:World)(H:Hp)(s:Shared)(Q:VK)(u:Value)(s':Shared):Prop :=
 ∃v H',s'.os=s.os/\AllBare s'.gens/\Un (frs outer) [] H H' s.heap s'.heap/\HOk P w H' s'.heap/\RelV v u/\Q v H'
def CR(CX:CXT)(outer:List Env)(P:Program)(w:World)(H:Hp)(s:Shared)(Q:VK)(E:XK)(r:Result)(s':Shared):Prop :=
 match r with
 |.ok (.ret u)=>CE outer P w H s Q u s'
 |.ok _=>False
 |.error e=>CX outer H s E e s'
structure FnOk(P:Program)(w:World)(K:Fg)(mg:Z9)(base:Heap)(CX:CXT)(k:Nat)(f:Addr)(fd:FuncData)(ps:List Str)(sp:Sp):Prop where
 len:∀vs H Q E,sp vs H Q E->vs.length=ps.length
 run:∀(A:Around) (outer:List Env) (s:Shared) (H:Hp) (args:Args) (us:List Value) (vs:List V) (Q:VK) (E:XK),Room k A->Env0 P w K mg base A outer s H->BindsTo s fd args (ps.zip us)->Vals vs us->sp vs H Q E ->
  codeAny (model P w) A (.call (.ref f) args) (CR CX outer P w H s Q E) s
theorem Env0.make{w:World}(e:Env0 P w K mg base A outer s H)(C:Addr)(us:List Value)(a:List (Str×Value)) :
  Env0 P w K mg base (A.under (.builtin "type.__call__" ⟨.ref C::us,a⟩)) outer s H:=⟨by first | exact e.frames | (simpa[Around.under,Code.envs,Code.isFrame,pushEnvs]using e.frames),e.mod,e.bs,e.bsz,e.funs,e.frf,e.hok,e.bare⟩
section
variable{X:Cx}{σ:St}
theorem Inv.env0(I:Inv X pins σ H s):Env0 X.prog X.w X.K X.mg X.base X.A X.stack s H :=
 ⟨I.ok.frames,I.ok.mod,I.bs,wZ I.ok.bsz I.sz,I.stack,I.stkFree,I.hok,I.bare⟩
theorem Inv.after{Q:VK}(I:Inv X pins σ H s)(h:CE X.stack X.prog X.w H s Q u s'):EP X pins σ Q u s':=by
 obtain⟨v,j,i,a,un,e,r,q⟩:=h
 obtain⟨f,g,d,t,c⟩:=s'
 obtain rfl:c=s.os:=i
 exists v,j,I.call (h':=f) (g':=g) (d':=d) (t':=t) (ch:=[]) un e a (fun b z=>Y21 z (by simp)),r,q
end
def Qwd(sp:Sp)(dvs:List V)(E:XK)(t:TA):TE:=fun σ H Q=>t σ H fun vs H1=>sp (vs++dvs) H1 Q E
def tMeth(C:Addr)(m:Str)(sp:Sp)(dvs:List V)(E:XK)(ta:TE)(t:TA):TE:=fun σ H Q=>ta σ H fun x H1=>∃a dx fs,x=.ref a/\H1 a=some (.ins C dx fs)/\fs.lookup m=none /\
 t σ H1 fun vs H2=>sp (x::(vs++dvs)) H2 Q E
def tMake(C:Addr)(sp:Sp)(dvs:List V)(E:XK)(t:TA):TE:=fun σ H Q=>t σ H fun vs H1=>∀x dx,H1 x=none->H1 dx=none->dx≠x ->
 sp (.ref x::(vs++dvs)) (upd (upd H1 dx (.own x)) x (.ins C dx [])) (fun v H2=>v=.non/\Q (.ref x) H2) E
def Binds(K:Fg)(fd:FuncData)(ps:List Str)(ds:List Value):Prop :=
 ∀(s:Shared) (us:List Value),K.In s.heap->(us++ds).length=ps.length->BindsTo s fd ⟨us,[]⟩ (ps.zip (us++ds))
theorem Binds.all{ps:List Str}(h:∀us:List Value,us.length=ps.length->bindArgs fd ⟨us,[]⟩=pure (ps.zip us)):Binds K fd ps []:=fun s us _ a=>by
 rw[xV]at a⊢
 exact .of_eq (h us a)
def Wt(CX:CXT)(X:Cx)(E:XK):Prop:=∀(pins:Z8) (σ:St) (H:Hp) (s:Shared) (e:Value) (s':Shared),Inv X pins σ H s->CX X.stack H s E e s'->X.xe e s'
section
variable{X:Cx}{CX:CXT}{k:Nat}{ps:List Str}{sp:Sp}{dvs:List V}{ds:List Value}{E:XK}{m:Str}{p apos:Pos}{o:Expr}{ta:TE}{t:TA}
theorem Qmz{σ:St}{Q:VK}(F:FnOk X.prog X.w X.K X.mg X.base CX k f fd ps sp)(c:Room k X.A)(d:Binds X.K fd ps ds)(g:Vals dvs ds)(l:Wt CX X E)
  (I:Inv X pins σ H s) (r:Vals vs us) (h:sp (vs++dvs) H Q E):qd X X.A (call (.ref f) us) (EP X pins σ Q) X.xe s:=by
 have b:Vals (vs++dvs) (us++ds):=r.append g
 have i:(us++ds).length=ps.length:=by rw[<-b.length];exact F.len _ _ _ _ h
 refine wpAny_call (Y49 (F.run X.A X.stack s H ⟨us,[]⟩ (us++ds) (vs++dvs) Q E c I.env0 (d s us I.kIn i) b h) fun r j a=>?_)
 cases r with
 |error e=>exact l pins σ H s e j I a
 |ok fl=>
  cases fl with
  |ret u=>exact I.after a
  |next=>exact False.elim a
  |brk=>exact False.elim a
  |cont=>exact False.elim a
theorem Qna(F:FnOk X.prog X.w X.K X.mg X.base CX k f fd ps sp)(g:Room k X.A)(l:Gl X x)(u:X.mg x=some (.ref f))(d:PySem.W.keepIn X.K (.ref f)=true)(i:Binds X.K fd ps ds)(j:Vals dvs ds)(o:Wt CX X E)
  (m:PA X (e::es) t) (c:qc ((x == ("__debug__":Str))=false)) (he:qb (starEach (e::es) X.env=(false,eval e X.env)::starEach es X.env)) (b:qb ((backTo pos (starEach es X.env)).any (·.1)=false)) :
  PE X (.Call (.Name x p) (e::es) [] pos) (Qwd sp dvs E t):=by
 intro a s n H Q I h
 refine Y41 (Kw I l u ?_ c)
 refine PySem.W.callWith_K (h₀:=X.base) I.ok.mod.kin d (thn (m pos a s n H _ I h) fun us s1 ⟨vs,H1,I1,r,q⟩=>⟨I1.kIn,?_⟩) he b
 exact Qmz F g i j o I1 r q
theorem Zf{pl:Sem Bool}(he:PE X o ta)(c:Cls X.K C)(p:Meth X.K C m f)(F:FnOk X.prog X.w X.K X.mg X.base CX k f fd ps sp)(v:Room k X.A)(y:Binds X.K fd ps ds)(z:Vals dvs ds)(N:Wt CX X E)(B:PA X (e::es) t)
  (g:qb (starEach (e::es) X.env=(false,eval e X.env)::starEach es X.env)) (i:qb ((backTo pos (starEach es X.env)).any (·.1)=false))
  (G:eval (.Call (.Attribute o m apos) (e::es) [] pos) X.env=(do
   let ov ← eval o X.env
   standAt apos.atName
   let (f,first) ← holding [ov] (getMethod ov m pl)
   callWith pos f first (backTo pos (starEach (e::es) X.env)) (backToKw pos (keywordEach [] X.env))):=by rfl) :
  PE X (.Call (.Attribute o m apos) (e::es) [] pos) (tMeth C m sp dvs E ta t):=by
 intro b s n H Q I h
 refine PySem.W.methodCall_KW (pl:=pl) (thn (he b s n H _ I h) fun u L d=>?_) G
 obtain⟨x,J,j,D,a,O,fs,ex,M,l,q⟩:=d
 subst ex
 obtain rfl:u=Value.ref a:=D
 refine Qcs j M c p l ?_
 refine PySem.W.callWith_K (first:=[.ref a]) (h₀:=X.base) I.ok.mod.kin p.kp (thn (B pos b L n J _ j q) fun us s2 ⟨vs,H2,I2,r,q2⟩=>⟨I2.kIn,?_⟩) g i
 exact Qmz (us:=.ref a::us) (vs:=.ref a::vs) F v y z N I2 (.cons rfl r) q2
theorem Qrn{pl:Sem Bool}(he:PE X o ta)(c:Cls X.K C)(g:Meth X.K C m f)(F:FnOk X.prog X.w X.K X.mg X.base CX k f fd ps sp)(i:Room k X.A)(j:Binds X.K fd ps ds)(n:Vals dvs ds)(y:Wt CX X E)
  (r:eval (.Call (.Attribute o m apos) [] [] pos) X.env=(do
   let ov ← eval o X.env
   standAt apos.atName
   let (f,first) ← holding [ov] (getMethod ov m pl)
   callWith pos f first (backTo pos (starEach [] X.env)) (backToKw pos (keywordEach [] X.env))):=by rfl) :
  PE X (.Call (.Attribute o m apos) [] [] pos) (tMeth C m sp dvs E ta tNil):=by
 intro b s t H Q I h
 refine PySem.W.methodCall_KW (pl:=pl) (thn (he b s t H _ I h) fun u D e=>?_) r
 obtain⟨x,B,d,p,a,z,fs,ex,v,l,q⟩:=e
 subst ex
 obtain rfl:u=Value.ref a:=p
 refine Qcs d v c g l ?_
 exact PySem.W.callWith_K0 (first:=[.ref a]) d.kIn g.kp (Qmz (us:=[.ref a]) (vs:=[.ref a]) F i j n y d (.cons rfl .nil) q)
structure Mk(K:Fg)(C f:Addr):Prop where
 makes:PySem.W.makesIn K C=true
 init:PySem.W.findIn K (.ref C) "__init__"=some (some (.ref f))
 fn:PySem.W.isFn K (.ref f)=true
 kp:PySem.W.keepIn K (.ref C)=true
theorem Qro{σ:St}{Q:VK}(M:Mk X.K C f)(F:FnOk X.prog X.w X.K X.mg X.base CX k f fd ps sp)(g:Room (k+1) X.A)(i:Binds X.K fd ps ds)(l:Vals dvs ds)
  (m:Wt CX X E) (I:Inv X pins σ H s) (r:Vals vs us)
  (h:∀x dx,H x=none->H dx=none->dx≠x->sp (.ref x::(vs++dvs)) (upd (upd H dx (.own x)) x (.ins C dx [])) (fun v H2=>v=.non/\Q (.ref x) H2) E) :
  qd X X.A (call (.ref C) us) (EP X pins σ Q) X.xe s:=by
 have d:=h ((qa s)+1) (qa s) (I.hok.fresh (yYe _)) (I.hok.fresh (jJ _)) (xZ (Nat.lt_succ_self _))
 have b:=Inv.made (C:=C) I
 have c:Vals (V.ref ((qa s)+1)::(vs++dvs)) (Value.ref ((qa s)+1)::(us++ds)):=.cons rfl (r.append l)
 have p:(Value.ref ((qa s)+1)::us++ds).length=ps.length:=by
  have e:=c.length
  rw[F.len _ _ _ _ d]at e
  exact e.symm
 refine wpAny_call (Qrm (f:=f) I.kIn M.makes M.init (beq_iff_eq.mp M.fn) (Y49 (F.run _ X.stack _ _ ⟨Value.ref ((qa s)+1)::us,[]⟩ (Value.ref ((qa s)+1)::(us++ds)) _ _ E (g.make C us [])
  (b.env0.make C us []) (i _ (Value.ref ((qa s)+1)::us) b.kIn p) c d) fun r t a=>?_))
 cases r with
 |error e=>exact m pins σ _ _ e t b a
 |ok fl=>
  cases fl with
  |ret u=>
   obtain⟨v,q,j,y,o,n⟩:=b.after a
   subst o
   exists y,⟨V.ref ((qa s)+1),q,j,rfl,n⟩
  |next=>exact False.elim a
  |brk=>exact False.elim a
  |cont=>exact False.elim a
theorem Qnb(M:Mk X.K C f)(F:FnOk X.prog X.w X.K X.mg X.base CX k f fd ps sp)(d:Room (k+1) X.A)(j:Gl X x)(o:X.mg x=some (.ref C))(g:Binds X.K fd ps ds)(i:Vals dvs ds)(n:Wt CX X E)
  (l:PA X (e::es) t) (c:qc ((x == ("__debug__":Str))=false)) (he:qb (starEach (e::es) X.env=(false,eval e X.env)::starEach es X.env)) (b:qb ((backTo pos (starEach es X.env)).any (·.1)=false)) :
  PE X (.Call (.Name x p) (e::es) [] pos) (tMake C sp dvs E t):=by
 intro a s m H Q I h
 refine Y41 (Kw I j o ?_ c)
 refine PySem.W.callWith_K (h₀:=X.base) I.ok.mod.kin M.kp (thn (l pos a s m H _ I h) fun us s1 ⟨vs,H1,I1,r,q⟩=>⟨I1.kIn,?_⟩) he b
 exact Qro M F d g i n I1 r q
end
structure FnScope(N P:List Str)(sc:Scope):Prop where
 kind:sc.kind=.function
 co:sc.isCoroutine=false
 gen:sc.isGenerator=false
 nd:N.Nodup
 pre:N.take P.length=P
 par:∀x∈P,sc.names.lookup x=some .local\/sc.names.lookup x=some .cell
 nofree:∀y∈sc.names,y.2≠.free
theorem Qfd{kindOf:Str->Option NameKind}{x:Str}:∀{binds:List (Str×Value)} {m:Z9},(∀v,(x,v)∉binds)->bindL kindOf binds m x=m x
 |[],_,_=>rfl
 |(n,v)::r,m,h=>by
  unfold bindL
  rw[Qfd fun w a=>h w (kJ _ a)]
  split
  .have:x≠n:=by rintro rfl;exact h v jY
   simp[this]
  .rfl
theorem Qfe{kindOf:Str->Option NameKind}{x:Str}:∀{binds:List (Str×Value)} {m:Z9},(∀v,(x,v)∉binds)->bindC kindOf binds m x=m x
 |[],_,_=>rfl
 |(n,v)::r,m,h=>by
  unfold bindC
  rw[Qfe fun w a=>h w (kJ _ a)]
  split
  .rfl
  .have:x≠n:=by rintro rfl;exact h v jY
   simp[this]
theorem Qff{kindOf:Str->Option NameKind}{x:Str}{v:Value}:∀{P:List Str} {vs:List Value} {i:Nat} {m:Z9},P.Nodup->P[i]?=some x->vs[i]?=some v->kindOf x=some .local ->
  bindL kindOf (P.zip vs) m x=some v
 |[],_,_,_,_,h,_,_=>by simp at h
 |_::_,[],_,_,_,_,h,_=>by simp at h
 |p::P,w::vs,0,m,nd,h1,h2,hk=>by
  simp at h1 h2;subst h1;subst h2
  show bindL kindOf ((p,w)::P.zip vs) m p=_
  unfold bindL
  rw[Qfd fun v a=>(kQb.mp nd).1 (List.of_mem_zip a).1,Y22 hk]
  simp
 |p::P,w::vs,i+1,m,nd,h1,h2,hk=>by
  show bindL kindOf ((p,w)::P.zip vs) m x=_
  unfold bindL
  exact Qff (i:=i) (kQb.mp nd).2 (by simpa using h1) (by simpa using h2) hk
theorem Qfg{kindOf:Str->Option NameKind}{x:Str}{v:Value}:∀{P:List Str} {vs:List Value} {i:Nat} {m:Z9},P.Nodup->P[i]?=some x->vs[i]?=some v->kindOf x≠some .local ->
  bindC kindOf (P.zip vs) m x=some v
 |[],_,_,_,_,h,_,_=>by simp at h
 |_::_,[],_,_,_,_,h,_=>by simp at h
 |p::P,w::vs,0,m,nd,h1,h2,hk=>by
  simp at h1 h2;subst h1;subst h2
  show bindC kindOf ((p,w)::P.zip vs) m p=_
  unfold bindC
  rw[Qfe fun v a=>(kQb.mp nd).1 (List.of_mem_zip a).1,Y20 hk]
  simp
 |p::P,w::vs,i+1,m,nd,h1,h2,hk=>by
  show bindC kindOf ((p,w)::P.zip vs) m x=_
  unfold bindC
  exact Qfg (i:=i) (kQb.mp nd).2 (by simpa using h1) (by simpa using h2) hk
def start(N:List Str)(vs:List V):St:=vs.map some++qg (N.length-vs.length) none
def cxOf(CX:CXT)(P:Program)(w:World)(K:Fg)(mg:Z9)(base:Heap)(N:List Str)(qual:Str)(scope:Scope)(f:Addr)(cd:Value)(A:Around)(outer:List Env)(s:Shared)(H:Hp)(E:XK):Cx where
 prog:=P
 w:=w
 K:=K
 mg:=mg
 base:=base
 A:=A.deeper (envOfC qual scope (qa s) f cd)
 N:=N
 s₀:=s
 H₀:=H
 env:=envOfC qual scope (qa s) f cd
 outer:=outer
 stack:=envOfC qual scope (qa s) f cd::outer
 ex:=[]
 calm:=true
 fn:=fun _=>true
 pn:=[]
 xe:=fun e s'=>qe P w (A.deeper (envOfC qual scope (qa s) f cd)) (leaving (envOfC qual scope (qa s) f cd) e) (fun _ s''=>CX outer H s E e s'') (fun e' s''=>CX outer H s E e' s'') s'
theorem Qja{sc:Scope}{n:Nat}(h:sc.names.lookup x=some .cell):∃c,(cellsFrom n sc.names []).lookup x=some c:=by
 have q:=PySem.W.cellsFrom_some sc.names n [] (.inl h)
 exact kXb.mp q
theorem Qnc{CX:CXT}{w:World}{ps:List Str}{cd:Value}{s1:Shared}{E:XK}
  (S:FnScope N ps scope) (D:A.handled=none) (g:Env0 P w K mg base A outer s H) (M:vs.length=ps.length) (r:Vals vs us)
  (x:InCallC s (qa s) (bindL (envOfC qual scope (qa s) f cd).kindOf (ps.zip us) fun _=>none) (cellsFrom ((qa s)+1) scope.names []) (bindC (envOfC qual scope (qa s) f cd).kindOf (ps.zip us) fun _=>none) s1) :
  Inv (cxOf CX P w K mg base N qual scope f cd A outer s H E) [] (start N vs) H s1:=by
 have G:ps.length<=N.length:=by have:=congrArg List.length S.pre;rw[zZ]at this;lia
 obtain⟨o,L,rfl,B⟩:=x.done
 have j:∀b:Addr,b∉(cxOf CX P w K mg base N qual scope f cd A outer s H E).ex:=fun b z=>Y21 (show b∈([]:List Addr)from z) (by simp)
 refine⟨⟨g.mod,S.kind,rfl,rfl,jJ _,fun y z c o d=>?_,fun y hy=>?_,fun y c _ h=>?_,fun _=>D,Around.frames_deeper g.frames,.inr ⟨rfl,rfl⟩,fun b z=>Y21 z (j b),g.bs,g.bsz,fun b _ _=>j b,fun b z=>Y21 z (j b),g.funs,g.frf⟩,
  rfl,g.bare,Un.kept B,⟨_,x.toInCall.ns,fun i y v o d J=>?_⟩,fun y c h=>⟨_,x.cell y c h⟩,g.hok.fresh (jJ _),fun y c h=>?_,fun p l=>Y21 (show p∈([]:Z8)from l) (by simp),g.hok.kept B,?_⟩
 .exact name_of_addr x.apart (PySem.mem_of_lookup o) (PySem.mem_of_lookup d)
 .have hy:scope.names.lookup y=some .cell\/scope.names.lookup y=some .free:=hy
  rcases hy with hy | hy
  .exact Qja hy
  .exact Y21 rfl (S.nofree _ (PySem.mem_of_lookup hy))
 .exact Nat.le_of_lt (x.above y c (PySem.mem_of_lookup h))
 .have t:i<vs.length:=by
   unfold start at d
   by_cases t:i<vs.length
   .exact t
   .rw[jJe (by simpa using t)]at d
    rw[List.getElem?_replicate]at d
    split at d<;>cases d
  have F:vs[i]?=some v:=by
   unfold start at d
   rw[jYd (by simpa using t),yZ]at d
   cases e:vs[i]? with
   |none=>rw[e]at d;cases d
   |some a=>rw[e]at d;cases d;rfl
  obtain⟨u,C,I⟩:=r.get F
  have l:ps[i]?=some y:=by
   rw[<-S.pre,kXc Om];exact o
  have m:ps.Nodup:=by rw[<-S.pre];exact S.nd.sublist (List.take_sublist _ _)
  exists u,I,?_
  rcases S.par y (kY l)with k | k
  .exact .inl ⟨k,Qff m l C k⟩
  .obtain⟨c,e⟩:=Qja (n:=(qa s)+1) k
   refine .inr ⟨.inl k,c,e,?_⟩
   have q:=x.cell y c e
   rw[Qfg m l C (by show scope.names.lookup y≠_;rw[k];decide)]at q
   exact q
 .exact g.hok.fresh (Nat.le_of_lt (x.above y c (PySem.mem_of_lookup h)))
 .unfold start
  show _=N.length
  rw[jZ,jX,wY]
  lia
theorem fn_of{CX:CXT}{w:World}{k:Nat}{name:Str}{params:Arguments}{body:List Stmt}{dV kV:Value}
   {ps:List Str} {sp:Sp} (Y:K.lookup f=some ⟨oc,od,.func (PySem.W.fnOf name qual params body scope dV kV doc pm an cdv ct),osl⟩) (l:PySem.W.codeIn K cdv qual=true) (S:FnScope N ps scope)
  (j:∀vs H Q E,sp vs H Q E->vs.length=ps.length)
  (d:∀(A:Around) (outer:List Env) (s:Shared) (H:Hp) (vs:List V) (Q:VK) (E:XK),Room k (A.deeper (envOfC qual scope (qa s) f cdv))->sp vs H Q E ->
   ∃t,PSs (cxOf CX P w K mg base N qual scope f cdv A outer s H E) body t/\t { nx:=fun _ H'=>Q .non H',rt:=Q } (start N vs) H) :
  FnOk P w K mg base CX (k+1) f (PySem.W.fnOf name qual params body scope dV kV doc pm an cdv ct) ps sp:=by
 exists j,fun A outer s H C O vs Q E p i M r h=>?_
 have R:=j _ _ _ _ h
 have D:K.In s.heap:=i.mod.kin.keeps fun b o e=>(i.bs b o e).1
 have m:s.heap.NoLimit:=i.mod.nolimit.keeps fun b o e=>(i.bs b o e).1
 have c:∀y∈ps.zip O,scope.names.lookup y.1=some .local\/(scope.names.lookup y.1=some .cell/\((cellsFrom ((qa s)+1) scope.names []).lookup y.1).isSome=true):=fun⟨n,v⟩ G=>by
  rcases S.par n (List.of_mem_zip G).1 with q | q
  .exact .inl q
  .exact .inr ⟨q,PySem.W.cellsFrom_some _ _ _ (.inl q)⟩
 refine codeAny_call_function p.depth (D _ _ Y) rfl S.co S.gen rfl (PySem.W.codeRec_of D l) (M _ _ _ _ ?_)
 refine wpAny_newFunctionEnv_cells S.kind c fun X U F x=>?_
 subst U
 exists m.keeps x.toInCall.keep,codeAny_func ?_
 obtain⟨t,L,T⟩:=d A outer s H vs Q E (p.deeper _) h
 have I:Inv (cxOf CX P w K mg base N qual scope f cdv A outer s H E) [] (start N vs) H F:=Qnc S p.hd i R r x
 refine Y29 (L [] F (start N vs) H _ I T) (fun fl z g=>?_) fun e z g=>g
 have fin:∀{a:St} {H':Hp} {v:V} {u:Value},Inv (cxOf CX P w K mg base N qual scope f cdv A outer s H E) [] a H' z->RelV v u->Q v H'->CE outer P w H s Q u z :=
  fun{a H' v u} J B q=>⟨v,H',J.os,J.bare,J.base,J.hok,B,q⟩
 cases fl with
 |ret u=>
  obtain⟨v,a,H',J,B,q⟩:=g
  exact fin J B q
 |next=>
  obtain⟨a,H',J,q⟩:=g
  exact fin (v:=V.non) (u:=Value.none) J rfl q
 |brk=>
  obtain⟨_,_,_,q⟩:=g
  exact False.elim q
 |cont=>
  obtain⟨_,_,_,q⟩:=g
  exact False.elim q
section
variable{X:Cx}{p:Pos}{t:TA}{id T:String}{r:List V->Hp->VK->Prop}
def tCB(r:List V->Hp->VK->Prop)(t:TA):TE:=fun σ H Q=>t σ H fun vs H1=>r vs H1 Q
theorem Qr(k:CallR X (.builtin id) r)(f:Gl X x)(l:X.mg x=none)(i:bootBuiltins x=some (.builtin id))(g:PA X (e::es) t)(j:qc (x≠"__name__"))(b:qc ((x == ("__debug__":Str))=false))
  (he:qb (starEach (e::es) X.env=(false,eval e X.env)::starEach es X.env)) (c:qb ((backTo pos (starEach es X.env)).any (·.1)=false)):PE X (.Call (.Name x p) (e::es) [] pos) (tCB r t):=by
 intro a s d H Q I h
 refine Y41 (Kp I f l i ?_ j b)
 exact PyProof.Rows.callWith_builtin1 (thn (g pos a s d H _ I h) fun us s1 ⟨vs,H1,I1,r1,q1⟩=>k a s1 d H1 vs us Q I1 r1 q1) he c
theorem Yg(k:CallR X (.type T) r)(f:Gl X x)(l:X.mg x=none)(i:bootBuiltins x=some (.type T))(g:PA X (e::es) t)(j:qc (x≠"__name__"))(b:qc ((x == ("__debug__":Str))=false))
  (he:qb (starEach (e::es) X.env=(false,eval e X.env)::starEach es X.env)) (c:qb ((backTo pos (starEach es X.env)).any (·.1)=false)):PE X (.Call (.Name x p) (e::es) [] pos) (tCB r t):=by
 intro a s d H Q I h
 refine Y41 (Kp I f l i ?_ j b)
 exact Y38 (thn (g pos a s d H _ I h) fun us s1 ⟨vs,H1,I1,r1,q1⟩=>k a s1 d H1 vs us Q I1 r1 q1) he c
end
end L2
variable{X:L2.Cx}{σ τ0 cs:L2.St}{D:L2.Ends}{te:L2.TE}{g:L2.TG}{ta:L2.TA}{tb s1 s2 s3 s4 s5 s6 s7 s8 s9 s10 s11 s12:L2.TS}{sp:L2.Sp}{J:L2.It}{tt:L2.TT}
namespace HT
open PySem PyProof.Rows
section
variable{w:World}
theorem cat_tup{t:Addr}{vs ws:List Value}{Q:VP}(u:IsTup s.heap t vs.toArray)(v:IsTup s.heap b ws.toArray)(o:vs≠[])
  (y:ws=[]->Q (.ref t) s) (x:ws≠[]->Q (.ref (qa s)) { s with heap:=s.heap.push { cls:=.type "tuple",data:=.seq (vs++ws).toArray } })
  (hsz:vs.length+ws.length<=sizeLine):qe prog w A (binaryOp .Add (.ref t) (.ref b)) Q E s:=by
 obtain⟨⟨cls,p,data,q⟩,i,k,n,m⟩:=id u
 obtain⟨⟨l,c,j,d⟩,a,f,r,g⟩:=id v
 simp only at k m f g
 subst k m f g
 have e:vs.toArray++ws.toArray=(vs++ws).toArray:=by simp
 by_cases h:ws=[]
 .exact concat_meets ⟨_,i,rfl⟩ ⟨_,a,rfl⟩ noFill_tuple_add seq_tuple_add PySem.F.slot_tuple_add PySem.F.entry_tuple_add (PySem.F.args_tuple_add_2 _ _)
   (tuple_addW1 t b vs.toArray ws.toArray n r p c q d (by simpa using o) (by simp[h])) ⟨i,a,y h⟩
 .refine concat_meets ⟨_,i,rfl⟩ ⟨_,a,rfl⟩ noFill_tuple_add seq_tuple_add PySem.F.slot_tuple_add PySem.F.entry_tuple_add (PySem.F.args_tuple_add_2 _ _)
   (tuple_addW2 t b vs.toArray ws.toArray n r p c q d (by simpa using o) (by simpa using h) (by rw[kX,kX];exact hsz)) ⟨i,a,?_⟩
  rw[e]
  exact x h
def sIx(n d:Nat):Option Int->Nat
 |none=>d
 |some v=>if v<0 then(v+(n:Int)).toNat else min v.toNat n
theorem sIx_none(n d:Nat):sIx n d none=d:=rfl
theorem sIx_nat(n d k:Nat):sIx n d (some (k:Int))=min k n:=by
 show(if (k:Int)<0 then((k:Int)+(n:Int)).toNat else min (k:Int).toNat n)=min k n
 rw[Y20 Om,jYe]
theorem sIx_le(n d:Nat)(b:d<=n)(o:Option Int):sIx n d o<=n:=by
 cases o with
 |none=>exact b
 |some v=>
  show(if v<0 then(v+(n:Int)).toNat else min v.toNat n)<=n
  by_cases a:v<0
  .rw[Y22 a];lia
  .rw[Y20 a];exact Nat.min_le_right _ _
theorem min_cast(v:Int)(n:Nat)(h:¬v<0):min v (n:Int)=((min v.toNat n:Nat):Int):=by
 obtain⟨k,rfl⟩:=Int.eq_ofNat_of_zero_le (Int.not_lt.mp h)
 rw[jYe]
 rcases Nat.le_total k n with h | h
 .rw[jQb h,Int.min_eq_left (Int.ofNat_le.mpr h)]
 .rw[kZd h,Int.min_eq_right (Int.ofNat_le.mpr h)]
theorem clip_eq(v:Int)(n d:Nat):(if v<0 then max (v+(n:Int)) 0 else min v (n:Int))=((sIx n d (some v):Nat):Int):=by
 show(if v<0 then max (v+(n:Int)) 0 else min v (n:Int))=(((if v<0 then(v+(n:Int)).toNat else min v.toNat n):Nat):Int)
 by_cases a:v<0
 .rw[Y22 a,Y22 a];exact(Int.ofNat_toNat _).symm
 .rw[Y20 a,Y20 a];exact min_cast v n a
theorem Qlg(lo a:Option Int)(n:Nat):Builtin.Slice.sliceAdjust lo a 1 (n:Int)=(((sIx n 0 lo:Nat):Int),((sIx n n a:Nat):Int)):=by
 have b:¬((1:Int)<0):=Om
 unfold Builtin.Slice.sliceAdjust
 simp only[b,if_false]
 refine Prod.ext ?_ ?_
 .cases lo with
  |none=>rfl
  |some v=>exact clip_eq v n 0
 .cases a with
  |none=>rfl
  |some v=>exact clip_eq v n n
theorem Qlh(i j:Nat):Builtin.Slice.slicePlaces (i:Int) (j:Int) 1=j-i:=by
 unfold Builtin.Slice.slicePlaces
 have a:(1:Int) > 0:=Om
 simp only[a,if_true,Int.ediv_one]
 split<;>lia
theorem Qct{v:Value}{o:Option Int}{Q:Option Int->Shared->Prop}(p:IsPart v o)(h:Q o s):qe prog w A (Builtin.Slice.slicePartIndex v) Q E s:=by
 cases p with
 |none=>exact slicePart_none h
 |int i t=>exact slicePart_int h
theorem Jv{sl:Addr}{n:Nat}{Q:Int×Int×Nat->Shared->Prop}(c:s.heap.IsSliceOf sl vl vu .none)(pl:IsPart vl lo)(e:IsPart vu hi)
  (h:Q (((sIx n 0 lo:Nat):Int),1,sIx n n hi-sIx n 0 lo) s):qe prog w A (Builtin.Slice.sliceApplied (.ref sl) (pure (n:Int))) Q E s:=by
 obtain⟨f,a,d,b⟩:=id c
 unfold Builtin.Slice.sliceApplied Builtin.Slice.sliceFields
 refine jQ (jQ (Y23 a b (x:=vl) rfl (jQ (Y23 a b (x:=vu) rfl (jQ (Y23 a b (x:=.none) rfl (kQ ?_)))))))
 refine jQ (slicePart_none ?_)
 show wpAny _ _ (if ((1:Int) == 0)=true then _ else _) _ _ s
 rw[Y20 Dc]
 refine jQ (Qct pl (jQ (Qct e (jQ (kQ ?_)))))
 show wpAny _ _ (match Builtin.Slice.sliceAdjust lo hi 1 (n:Int)with | (lo,hi)=>pure (lo,(1:Int),Builtin.Slice.slicePlaces lo hi 1)) _ _ s
 rw[Qlg lo hi n]
 show wpAny _ _ (pure (((sIx n 0 lo:Nat):Int),(1:Int),Builtin.Slice.slicePlaces ((sIx n 0 lo:Nat):Int) ((sIx n n hi:Nat):Int) 1)) _ _ s
 rw[Qlh]
 exact kQ h
theorem Qrp(xs:Array Value)(i k:Nat):((List.range k).filterMap fun(m:Nat)=>xs[((i:Int)+(m:Int)*1).toNat]?).toArray=((xs.toList.drop i).take k).toArray:=by
 have e:(fun(m:Nat)=>xs[((i:Int)+(m:Int)*1).toNat]?)=fun m=>xs[i+m]?:=by
  funext m
  have:((i:Int)+(m:Int)*1).toNat=i+m:=Om
  rw[this]
 rw[e]
 have:=pick_run xs i k
 rw[List.filterMap_map]at this
 have a:((fun x=>xs[x]?)∘fun x=>i+x)=fun m=>xs[i+m]?:=rfl
 rw[a]at this
 rw[this]
theorem getItem_tuple_cut{t sl:Addr}{items:Array Value}{Q:VP}(b:IsTup s.heap t items)(g:s.heap.IsSliceOf sl vl vu .none)(pl:IsPart vl lo)(l:IsPart vu hi)
  (i:¬(sIx items.size 0 lo=0/\sIx items.size items.size hi=items.size))
  (h:Q (.ref (qa s)) { s with heap:=s.heap.push { cls:=.type "tuple",data:=.seq ((items.toList.drop (sIx items.size 0 lo)).take (sIx items.size items.size hi-sIx items.size 0 lo)).toArray } })
  (hsz:items.size<=sizeLine):qe prog w A (getItem (.ref t) (.ref sl)) Q E s:=by
 have a:sizeOk (.seq ((items.toList.drop (sIx items.size 0 lo)).take (sIx items.size items.size hi-sIx items.size 0 lo)).toArray):=by
  show((items.toList.drop (sIx items.size 0 lo)).take (sIx items.size items.size hi-sIx items.size 0 lo)).toArray.size<=sizeLine
  rw[kX,zZ,jXb,jXa]
  lia
 have p:sIx items.size items.size hi<=items.size:=sIx_le _ _ (jJ _) hi
 obtain⟨j,e,c,k⟩:=id g
 have d:s.TypeIs (.ref sl) "slice":=⟨j,e,c⟩
 unfold getItem
 try with_reducible refine Y30 ?_
 first | refine jQ (kQ ?_) | skip
 refine jQ (wpAny_sequenceKey b.typeIs Dc ?_)
 refine jQ (wpAny_callSpecial?_slot (name:=Str.ofString "__getitem__") b.typeIs Y44
  (Y25 Y44 b.typeIs entry_tuple_getitem ?_ (args_tuple_getitem _ _)))
 show wpAny _ _ (Builtin.Tuple.tupleItemsOf (.ref t) >>= _) _ _ s
 refine jQ (tupleItemsOf_ b ?_)
 refine jQ (Y40 d ?_)
 rw[Y22 Dc]
 refine jQ (Jv g pl l ?_)
 have f:¬((((sIx items.size 0 lo:Nat):Int) == 0&&(1:Int) == 1&&(sIx items.size items.size hi-sIx items.size 0 lo) == items.size)=true):=by
  intro q
  rw[wV,wV]at q
  have o:((sIx items.size 0 lo:Nat):Int)=0:=eq_of_beq q.1.1
  have n:sIx items.size items.size hi-sIx items.size 0 lo=items.size:=eq_of_beq q.2
  exact i ⟨Om,Om⟩
 show wpAny _ _ (if (((sIx items.size 0 lo:Nat):Int) == 0&&(1:Int) == 1&&(sIx items.size items.size hi-sIx items.size 0 lo) == items.size)=true then _ else _) _ _ s
 rw[Y20 f,Qrp]
 first
  |exact jQ (m:=Builtin.Tuple.tupleExact _) (Y26 (kQ ⟨_,rfl,kQ h⟩) a)
  |exact jQ (m:=Builtin.Tuple.tupleExact _) (Y26 (jQ (kQ (kQ ⟨_,rfl,kQ h⟩))) a)
  |exact jQ (jQ (m:=Builtin.Tuple.tupleExact _) (Y26 (kQ (kQ ⟨_,rfl,kQ h⟩)) a))
  |exact jQ (jQ (m:=Builtin.Tuple.tupleExact _) (Y26 (kQ ⟨_,rfl,kQ h⟩) a))
end
end HT
namespace L2
open PySem PySem.Spec PyProof.Rows
abbrev TO:=St->Hp->(Option Int->Hp->Prop)->Prop
def PO(X:Cx)(e:Option Expr)(t:TO):Prop :=
 ∀(pins:Z8) (s:Shared) (σ:St) (H:Hp) (Q:Option Int->Hp->Prop),Inv X pins σ H s->t σ H Q ->
  qd X X.A (evalPart e X.env) (fun u s'=>∃o H',Inv X pins σ H' s'/\IsPart u o/\Q o H') X.xe s
def Qwe:TO:=fun _ H Q=>Q none H
def tPart(t:TE):TO:=fun σ H Q=>t σ H fun x H1=>∃i,x=.int i/\Q (some i) H1
theorem intsAre_of{ns:List Int}:∀{us:List Value},Vals (ns.map V.int) us->IntsAre us ns:=by
 induction ns with
 |nil=>intro us r;rw[yQf]at r;cases r;exact .nil
 |cons n ns ih=>
  intro us r
  rw[zX]at r
  cases r with
  |cons r1 r2=>
   obtain⟨t,e⟩:=r1
   subst e
   exact .cons n t (ih r2)
section
variable{lo hi:Option Expr}{tl th:TO}{p2:Pos}
theorem Xn:PO X none Qwe:=by
 intro a s b H Q I h
 rw[evalPart_none]
 exact kQ ⟨none,H,I,.none,h⟩
theorem Xe(h:PE X e te):PO X (some e) (tPart te):=by
 intro a s g H Q I d
 rw[evalPart_some]
 refine thn (h a s g H _ I d) fun u l b=>?_
 obtain⟨x,j,c,f,k⟩:=b
 obtain⟨i,rfl,q⟩:=k
 obtain⟨t,rfl⟩:=f
 exists some i,j,c,.int i t,q
def SlR(X:Cx)(r:V->Option Int->Option Int->Hp->VK->Prop):Prop :=
 ∀(pins:Z8) (s:Shared) (σ:St) (H:Hp) (x:V) (v vl vu:Value) (lo hi:Option Int) (sl:Addr) (Q:VK),Inv X pins σ H s->RelV x v->s.heap.IsSliceOf sl vl vu .none->IsPart vl lo->IsPart vu hi->r x lo hi H Q ->
  ∃T id,typeLookup (.type T) "__getitem__"=pure (some (.builtin id))/\s.TypeIs v T/\qd X X.A (getItem v (.ref sl)) (EP X pins σ Q) X.xe s
def tSl(r:V->Option Int->Option Int->Hp->VK->Prop)(te:TE)(tl th:TO):TE:=fun σ H Q=>te σ H fun x H1=>tl σ H1 fun l H2=>th σ H2 fun u H3=>r x l u H3 Q
theorem Xc{r:V->Option Int->Option Int->Hp->VK->Prop}(C:SlR X r)(he:PE X e te)(y:PO X lo tl)(p:PO X hi th):PE X (.Subscript e (.Slice lo hi none p2) pos) (tSl r te tl th):=by
 intro a s f H Q I h
 refine Subscript_ (thn (he a s f H _ I h) fun v F d=>?_)
 obtain⟨x,E,z,j,G⟩:=d
 refine wpAny_Slice (thn (y a F f E _ z G) fun vl s2 ⟨l,H2,I2,pl,q2⟩=>thn (p a s2 f H2 _ I2 q2) fun g c d=>?_)
 obtain⟨u,i,D,J,o⟩:=d
 rw[evalPart_none]
 refine kQ ?_
 have B:Inv X a f i { c with heap:=c.heap.push { cls:=.type "slice",data:=.fields #[vl,g,.none] } }:=D.kept (t':=c.toks) fun b K q=>jW _ q
 obtain⟨T,id,n,m,k⟩:=C a { c with heap:=c.heap.push { cls:=.type "slice",data:=.fields #[vl,g,.none] } } f i x v vl g l u (qa c) Q B j (Heap.IsSliceOf.new ..) pl J o
 show qd X X.A (subscriptTail e (.Slice lo hi none p2) v (.ref (qa c))) (EP X a f Q) X.xe { c with heap:=c.heap.push { cls:=.type "slice",data:=.fields #[vl,g,.none] } }
 exact tail_any (ops:=[.ref (qa c),v]) m n k (by with_unfolding_all rfl)
def cutV(xs:List V)(lo hi:Option Int):List V:=(xs.drop (HT.sIx xs.length 0 lo)).take (HT.sIx xs.length xs.length hi-HT.sIx xs.length 0 lo)
theorem Qas(xs:List V)(lo a:Option Int):(cutV xs lo a).length<=xs.length:=by
 unfold cutV
 rw[zZ,jXb]
 lia
def rSlT(K:Fg):V->Option Int->Option Int->Hp->VK->Prop:=fun x lo hi H Q=>∃a xs,x=.ref a/\SqT K H a xs /\
 ¬(HT.sIx xs.length 0 lo=0/\HT.sIx xs.length xs.length hi=xs.length)/\∀p,H p=none->Q (.ref p) (upd H p (.tup (cutV xs lo hi)))
theorem Qjb:SlR X (rSlT X.K):=by
 intro j s B H x v C y e g A Q I u m p w h
 obtain⟨a,d,rfl,l,n,q⟩:=h
 cases u
 obtain⟨f,r,i,k⟩:=I.tuple l
 have c:f.toArray.size=d.length:=by rw[kX];exact r.length.symm
 exists "tuple",_,PyProof.Rows.slot_tuple_getitem.lookup,i.typeIs,?_
 refine HT.getItem_tuple_cut i m p w (by rw[c];exact n) ?_ (by rw[c];exact k)
 rw[c]
 exists .ref (qa s),_,I.laid (t':=s.toks) (o:=.tup (cutV d e g)) (fun b z q=>jW _ q) (jJ _) ?_,rfl,q _ (I.hok.fresh (jJ _))
 exists wZ (Qas d e g) k,_,(r.drop (HT.sIx d.length 0 e)).take (HT.sIx d.length d.length g-HT.sIx d.length 0 e),IsTup.new _ _
def rCatT(K:Fg):R2:=fun x y H Q=>∃a b xs ys,x=.ref a/\y=.ref b/\SqT K H a xs/\SqT K H b ys/\xs≠[]/\xs.length+ys.length<=sizeLine /\
 (ys=[]->Q (.ref a) H)/\(ys≠[]->∀p,H p=none->Q (.ref p) (upd H p (.tup (xs++ys))))
theorem Vals.nil_iff(r:Vals xs us):us=[]↔xs=[]:=by
 cases r with
 |nil=>simp
 |cons _ _=>simp
theorem Qds:OpR X (binaryOp .Add) (rCatT X.K):=by
 intro e s F H x y v u Q I B j h
 obtain⟨a,b,l,D,rfl,rfl,n,m,k,f,C,A⟩:=h
 cases B
 cases j
 obtain⟨i,d,p,_⟩:=I.tuple n
 obtain⟨g,c,r,_⟩:=I.tuple m
 refine HT.cat_tup p r (fun z=>k (d.nil_iff.mp z)) (fun z=>⟨.ref a,H,I,rfl,C (c.nil_iff.mp z)⟩) (fun z=>?_) (by rw[<-d.length,<-c.length];exact f)
 exists .ref (qa s),_,I.laid (t':=s.toks) (o:=.tup (l++D)) (fun b E q=>jW _ q) (jJ _) ?_,rfl,A (fun w=>z (c.nil_iff.mpr w)) _ (I.hok.fresh (jJ _))
 exists by rw[jZ];exact f,_,d.append c,IsTup.new _ _
end
def ixN(n:Nat)(i:Int):Option Nat:=if 0<=i then(if i<n then some i.toNat else none)else if -(n:Int)<=i then some (i+n).toNat else none
def atI{α:Type}(xs:List α)(i:Int):Option α:=(ixN xs.length i).bind fun j=>xs[j]?
theorem Qnd{n:Nat}{i:Int}(h:ixN n i=some j):seqIndex? i n=some j/\j<n/\-(n:Int)<=i/\i<n:=by
 unfold ixN at h
 by_cases b:0<=i
 .rw[Y22 b]at h
  by_cases a:i<n
  .rw[Y22 a]at h
   have e:i.toNat=j:=Y5 h
   exists by rw[seqIndex_of b a,e],Om,Om,a
  .rw[Y20 a]at h;cases h
 .rw[Y20 b]at h
  by_cases a:-(n:Int)<=i
  .rw[Y22 a]at h
   have e:(i+n).toNat=j:=Y5 h
   exists by rw[seqIndex_neg Om a,e],Om,a,Om
  .rw[Y20 a]at h;cases h
theorem Qdt{α:Type}{xs:List α}{i:Int}{v:α}(h:atI xs i=some v):∃j,seqIndex? i xs.length=some j/\xs[j]?=some v/\j<xs.length/\-(xs.length:Int)<=i/\i<xs.length:=by
 unfold atI at h
 cases e:ixN xs.length i with
 |none=>rw[e]at h;cases h
 |some j=>
  rw[e]at h
  obtain⟨d,b,c,a⟩:=Qnd e
  exists j,d,h,b,c,a
theorem Qat{α:Type}{xs:List α}{v:α}(h:xs[j]?=some v):atI xs (j:Int)=some v:=by
 have a:j<xs.length:=(jK.mp h).1
 have e:ixN xs.length (j:Int)=some j:=by
  unfold ixN
  rw[Y22 Om,Y22 Om];simp
 unfold atI;rw[e];exact h
theorem Qrq{α:Type}(xs:List α)(v:α):atI (xs++[v]) (-1)=some v:=by
 have a:(xs++[v]).length=xs.length+1:=by simp
 have e:ixN (xs++[v]).length (-1)=some xs.length:=by
  unfold ixN
  rw[a,Y20 Dc,Y22 Om]
  congr 1
  lia
 unfold atI
 rw[e]
 show(xs++[v])[xs.length]?=some v
 simp
def Qwf(b:Expr):Prop:=∀o i,subscripted b false o i=operate [o,i] (getItem o i)
def IxR(X:Cx)(r:R2):Prop :=
 ∀(value slice:Expr) (pins:Z8) (s:Shared) (σ:St) (H:Hp) (x y:V) (v u:Value) (Q:VK),Inv X pins σ H s->RelV x v->RelV y u->r x y H Q ->
  subscripted slice false v u=operate [v,u] (getItem v u)->qd X X.A (subscriptTail value slice v u) (EP X pins σ Q) X.xe s
def MtR(X:Cx)(id:String)(r:V->List V->Hp->VK->Prop):Prop :=
 ∀(pins:Z8) (s:Shared) (σ:St) (H:Hp) (x:V) (xs:List V) (v:Value) (us:List Value) (Q:VK),Inv X pins σ H s->RelV x v->Vals xs us->r x xs H Q ->
  qd X X.A (call (.builtin id) (v::us)) (EP X pins σ Q) X.xe s
section
variable{a b:Expr}{ta tb:TE}
theorem Qs{r:R2}(d:IxR X r)(f:PE X a ta)(e:PE X b tb)(j:Qwf b:=by exact fun _ _=>rfl):PE X (.Subscript a b pos) (tOp r ta tb):=by
 intro c s k H Q I h
 exact Subscript_ (binT f e I h fun v u n x y l m g i q=>d a b c n k l x y v u Q m g i q (j _ _))
inductive rIxL(K:Fg)(x y:V)(H:Hp)(Q:VK):Prop|mk(p:Addr)(xs:List V)(i:Int)(v:V)(a:x=.ref p)(b:y=.int i)(c:SqL K H p xs)(d:atI xs i=some v)(q:Q v H):rIxL K x y H Q
inductive rIxT(K:Fg)(x y:V)(H:Hp)(Q:VK):Prop|mk(p:Addr)(xs:List V)(i:Int)(v:V)(a:x=.ref p)(b:y=.int i)(c:SqT K H p xs)(d:atI xs i=some v)(q:Q v H):rIxT K x y H Q
def rIxS:R2:=fun x y H Q=>∃z i c,x=.str z/\y=.int i/\z.length<=sizeLine/\atI z.cps.toList i=some c/\Q (.str ⟨#[c]⟩) H
theorem Qn:IxR X (rIxL X.K):=by
 intro e f a s o H x y v u Q I J A h n
 obtain⟨p,M,i,z,rfl,rfl,D,G,q⟩:=h
 cases J
 obtain⟨t,rfl⟩:=A
 obtain⟨c,r,k,N⟩:=I.list D
 obtain⟨j,b,E,O,F,C⟩:=Qdt G
 obtain⟨w,l,d⟩:=r.get E
 have B:=r.length
 have P:=Qcr
 have fin:EP X a o Q w s:=⟨z,H,I,d,q⟩
 by_cases m:0<=i
 .have g:i.toNat=j:=by
   rw[seqIndex_of m C]at b
   exact Y5 b
  exact item_listR k.isList m Om (by rw[g];simpa using l) fin n
 .have g:(i+(c.toArray.size:Int)).toNat=j:=by
   rw[seqIndex_neg Om F]at b
   rw[kX,<-B]
   exact Y5 b
  exact subscriptTail_builtinR (x:=w) k.isList.typeIs slot_list_getitem.lookup
   (wpAny_getItem_list_neg (Q:=fun r L=>r=w/\EP X a o Q r L) k.isList Om (by rw[kX]<;>lia) Om (by rw[g];simpa using l) ⟨rfl,fin⟩) n
theorem Yd:IxR X (rIxT X.K):=by
 intro c d a s e H x y v u Q I C k h m
 obtain⟨p,F,i,z,rfl,rfl,o,B,q⟩:=h
 cases C
 obtain⟨t,rfl⟩:=k
 obtain⟨g,r,f,L⟩:=I.tuple o
 obtain⟨j,D,A,M,J,G⟩:=Qdt B
 obtain⟨w,l,b⟩:=r.get A
 have n:=r.length
 have N:=Qcr
 have fin:EP X a e Q w s:=⟨z,H,I,b,q⟩
 exact subscriptTail_builtinR (x:=w) f.typeIs slot_tuple_getitem.lookup
  (getItem_tuple (j:=j) (Q:=fun r E=>r=w/\EP X a e Q r E) f Om Om (by rw[kX,<-n];exact D) (by simpa using l) ⟨rfl,fin⟩) m
theorem Qcu:IxR X rIxS:=by
 intro a b d s B H x y v u Q I w f h g
 obtain⟨z,i,c,rfl,rfl,C,r,q⟩:=h
 obtain⟨t,rfl⟩:=w
 obtain⟨A,rfl⟩:=f
 obtain⟨j,e,o,D,p,m⟩:=Qdt r
 have l:z.cps.toList.length=z.length:=by simp[Str.length]
 rw[l]at e p m
 have E:=Qcr
 exact tail_any (typeIs_str s z t) slot_str_getitem.lookup (getItem_str (c:=c) (by
  have n:decide (i < -(2 ^ 63:Int))=false:=xK Om
  have k:decide (i≥2 ^ 63)=false:=xK Om
  rw[n,k,Bool.or_false]) (by rw[e];simpa using o) ⟨.str ⟨#[c]⟩,H,I.tok _,⟨_,rfl⟩,q⟩) g
theorem Qli(its:List Value)(n j:Nat)(u:Value):Obj.mapSeq (·.setIfInBounds j u) { cls:=.type "list",data:=.seq its.toArray n }={ cls:=.type "list",data:=.seq (its.set j u).toArray n }:=by
 simp[Obj.mapSeq]
theorem Inv.lst{pins:Z8}{σ:St}{H:Hp}{s:Shared}{p:Addr}{xs:List V}(I:Inv X pins σ H s)(h:H p=some (.lst xs)) :
  ∃(its:List Value) (n:Nat),Vals xs its/\s.heap.get? p=some { cls:=.type "list",data:=.seq its.toArray n }/\xs.length<=sizeLine:=by
 obtain⟨z,its,n,r,e⟩:=I.hok p _ h
 exists its,n,r,e,z
theorem Inv.lstUpd{n n':Nat}{f:Obj->Obj}(I:Inv X pins σ H s)(h:H p=some (.lst xs))
  (d:s.heap.get? p=some { cls:=.type "list",data:=.seq its.toArray n }) (a:f { cls:=.type "list",data:=.seq its.toArray n }={ cls:=.type "list",data:=.seq its'.toArray n' }) (r:Vals ys its') (hz:ys.length<=sizeLine) (t:Nat) :
  Inv X pins σ (upd H p (.lst ys)) { s with heap:=s.heap.update p f,toks:=t }:=by
 have e:(s.heap.update p f).get? p=some { cls:=.type "list",data:=.seq its'.toArray n' }:=by
  rw[jXf f d (by rw[a]<;>rfl),a]
 refine I.write (x:=p) (e:=p) (by rw[h];trivial) (.inl rfl) (fun b u c q=>(jXd _ _ (Ne.symm c)).trans q) ⟨_,e⟩ ?_
 exists hz,its',n',r,e
def rSetL:V->V->V->Hp->(Hp->Prop)->Prop:=fun o i v H Q=>∃p xs k j,o=.ref p/\i=.int k/\H p=some (.lst xs)/\ixN xs.length k=some j/\Q (upd H p (.lst (xs.set j v)))
theorem set_list:PSet X rSetL:=by
 intro b s B H o i v J F u Q I A y E h
 obtain⟨p,z,k,j,rfl,rfl,m,C,q⟩:=h
 cases A
 obtain⟨t,rfl⟩:=y
 obtain⟨a,n,r,f,D⟩:=I.lst m
 obtain⟨c,G,x,w⟩:=Qnd C
 have e:=r.length
 have K:=Qcr
 have g:Inv X b B (upd H p (.lst (z.set j v))) { s with heap:=s.heap.update p (Obj.mapSeq (·.setIfInBounds j u)) } :=
  I.lstUpd m f (Qli a n j u) (r.set E j) (by rw[yXc];exact D) s.toks
 by_cases l:0<=k
 .have d:k.toNat=j:=by
   rw[seqIndex_of l w]at c
   exact Y5 c
  exact PySem.W.ki_setAt f l Om (by rw[kX,<-e];exact w) (by rw[d];exists _,g,q)
 .have d:(k+(a.toArray.size:Int)).toNat=j:=by
   rw[seqIndex_neg Om x]at c
   rw[kX,<-e]
   exact Y5 c
  exact PySem.W.ki_setBack f Om (by rw[kX,<-e];exact x) Om (by rw[d];exists _,g,q)
theorem Qau(i:Int)(n d:Nat):max 0 (min (if i<0 then i+(n:Int)else i) (n:Int))=((HT.sIx n d (some i):Nat):Int):=by
 rw[<-HT.clip_eq]
 by_cases h:i<0
 .rw[Y22 h,Y22 h,Int.min_eq_left (by have:=Int.add_le_add_right (Int.le_of_lt h) (n:Int);rwa [kYd]at this),Int.max_comm]
 .rw[Y20 h,Y20 h,HT.min_cast i n h,Int.max_eq_right (Int.natCast_nonneg _)]
theorem Qfh(lo a:Option Int)(n:Nat):(sliceBounds lo a none n).1=((HT.sIx n 0 lo:Nat):Int)/\(sliceBounds lo a none n).2.1=((HT.sIx n n a:Nat):Int)/\(sliceBounds lo a none n).2.2=1:=by
 exists ?_,?_,rfl
 .cases lo with
  |none=>rfl
  |some i=>exact Qau i n 0
 .cases a with
  |none=>rfl
  |some i=>exact Qau i n n
theorem Qdu(its:List Value)(lo a:Option Int):slicePick its.toArray lo a none=((its.drop (HT.sIx its.length 0 lo)).take (HT.sIx its.length its.length a-HT.sIx its.length 0 lo)).toArray:=by
 obtain⟨d,b,c⟩:=Qfh lo a its.toArray.size
 unfold slicePick
 rw[d,b,c]
 simp only[sliceRange_one,pick_run,kX]<;>rfl
def rSlL(K:Fg):V->Option Int->Option Int->Hp->VK->Prop:=fun x lo hi H Q=>∃a xs,x=.ref a/\SqL K H a xs/\∀p,H p=none->Q (.ref p) (upd H p (.lst (cutV xs lo hi)))
theorem Jh:SlR X (rSlL X.K):=by
 intro g s z H x v A B e f y Q I l n j u h
 obtain⟨a,c,rfl,p,q⟩:=h
 cases l
 obtain⟨m,r,i,k⟩:=I.list p
 have d:=r.length
 exists "list",_,slot_list_getitem.lookup,i.isList.typeIs,?_
 refine wpAny_getItem_list_slice i.isList n j u .none (by simp) ?_ (by rw[kX]<;>lia)
 rw[Qdu,<-d]
 exists .ref (qa s),_,I.laid (t':=s.toks) (o:=.lst (cutV c e f)) (fun b w q=>jW _ q) (jJ _) ?_,rfl,q _ (I.hok.fresh (jJ _))
 exists wZ (Qas c e f) k,_,0,(r.drop (HT.sIx c.length 0 e)).take (HT.sIx c.length c.length f-HT.sIx c.length 0 e),yJ _ rfl
def Vm:V->Bool
 |.non=>true
 |.bl _=>true
 |.int _=>true
 |.str _=>true
 |_=>false
def eqV:V->V->Bool
 |.non,.non=>true
 |.bl a,.bl b=>a == b
 |.bl a,.int b=>(if a then 1 else 0) == b
 |.int a,.bl b=>a == (if b then 1 else 0)
 |.int a,.int b=>a == b
 |.str a,.str b=>a == b
 |_,_=>false
theorem Qne{x:V}{v:Value}(e:RelV y u)(c:RelV x v)(g:Vm y=true)(f:Vm x=true):SeqAt.EqAt A s u v (eqV y x):=by
 cases y with
 |non=>
  cases e
  cases x with
  |non=>cases c;exact SeqAt.EqAt.same _
  |bl b=>cases c;exact SeqAt.EqAt.none_bool b
  |int b=>obtain⟨t,rfl⟩:=c;exact SeqAt.EqAt.none_int b t
  |str b=>obtain⟨t,rfl⟩:=c;exact SeqAt.EqAt.none_str b t
  |_=>exact Y21 (show false=true from f) yY
 |bl a=>
  cases e
  cases x with
  |non=>cases c;exact SeqAt.EqAt.bool_none a
  |bl b=>cases c;exact SeqAt.EqAt.bool_bool a b
  |int b=>obtain⟨t,rfl⟩:=c;exact SeqAt.EqAt.bool_int a b t
  |str b=>obtain⟨t,rfl⟩:=c;exact SeqAt.EqAt.bool_str a b t
  |_=>exact Y21 (show false=true from f) yY
 |int a=>
  obtain⟨d,rfl⟩:=e
  cases x with
  |non=>cases c;exact SeqAt.EqAt.int_none a d
  |bl b=>cases c;exact SeqAt.EqAt.int_bool a d b
  |int b=>obtain⟨t,rfl⟩:=c;exact SeqAt.EqAt.int_int a d b t
  |str b=>obtain⟨t,rfl⟩:=c;exact SeqAt.EqAt.int_str a d b t
  |_=>exact Y21 (show false=true from f) yY
 |str a=>
  obtain⟨d,rfl⟩:=e
  cases x with
  |non=>cases c;exact SeqAt.EqAt.str_none a d
  |bl b=>cases c;exact SeqAt.EqAt.str_bool a d b
  |int b=>obtain⟨t,rfl⟩:=c;exact SeqAt.EqAt.str_int a d b t
  |str b=>obtain⟨t,rfl⟩:=c;exact SeqAt.EqAt.str_str a d b t
  |_=>exact Y21 (show false=true from f) yY
 |_=>exact Y21 (show false=true from g) yY
def eqU(x:V)(u:Value):Bool:=match u with
 |.none=>eqV .non x
 |.bool b=>eqV (.bl b) x
 |.int i _=>eqV (.int i) x
 |.str z _=>eqV (.str z) x
 |_=>false
theorem Qus{x:V}(r:RelV y u)(f:Vm y=true):eqU x u=eqV y x:=by
 cases y with
 |non=>cases r;rfl
 |bl b=>cases r;rfl
 |int i=>obtain⟨t,rfl⟩:=r;rfl
 |str z=>obtain⟨t,rfl⟩:=r;rfl
 |_=>exact Y21 (show false=true from f) yY
theorem Qav{x:V}:∀{xs:List V} {us:List Value},Vals xs us->xs.all Vm=true->us.any (eqU x)=xs.any fun y=>eqV y x
 |_,_,.nil,_=>rfl
 |y::xs,u::us,.cons r t,f=>by
  rw[List.all_cons,wV]at f
  rw[kZf,kZf,Qus r f.1,Qav t f.2]
theorem Vn{A:Around}{s:Shared}{x:V}{v:Value}(b:RelV x v)(a:Vm x=true):∀{xs:List V} {us:List Value},Vals xs us->xs.all Vm=true->∀u∈us,SeqAt.EqAt A s u v (eqU x u)
 |_,_,.nil,_=>fun u hu=>by cases hu
 |y::xs,u::us,.cons r t,f=>fun c hu=>by
  rw[List.all_cons,wV]at f
  rcases kK.mp hu with rfl | hu
  .rw[Qus r f.1];exact Qne r b f.1 a
  .exact Vn b a t f.2 c hu
def inV(x:V)(xs:List V):Bool:=xs.any fun y=>eqV y x
def rIn(K:Fg)(neg:Bool):R2:=fun x y H Q=>∃p xs,y=.ref p/\(SqL K H p xs\/SqT K H p xs)/\Vm x=true/\xs.all Vm=true/\Q (.bl (if neg then !inV x xs else inV x xs)) H
theorem Vo:OpR X (compareOp .In) (rIn X.K false):=by
 intro e s k H x y v u Q I d i h
 obtain⟨p,j,rfl,hq,f,fs,q⟩:=h
 cases i
 rcases hq with hq | hq
 .obtain⟨a,r,b,g⟩:=I.list hq
  refine SeqAt.in_listAt (eqU x) b.isList (fun w c=>Vn d f r fs w (by simpa using c)) ⟨.bl _,H,I,rfl,?_⟩
  rw[show a.toArray.any (eqU x)=a.any (eqU x)by simp,Qav r fs]
  exact q
 .obtain⟨a,r,b,g⟩:=I.tuple hq
  refine SeqAt.in_tupleAt (eqU x) b (fun w c=>Vn d f r fs w (by simpa using c)) ⟨.bl _,H,I,rfl,?_⟩
  rw[show a.toArray.any (eqU x)=a.any (eqU x)by simp,Qav r fs]
  exact q
theorem Wu:OpR X (compareOp .NotIn) (rIn X.K true):=by
 intro e s k H x y v u Q I d i h
 obtain⟨p,j,rfl,hq,f,fs,q⟩:=h
 cases i
 rcases hq with hq | hq
 .obtain⟨a,r,b,g⟩:=I.list hq
  refine SeqAt.notIn_listAt (eqU x) b.isList (fun w c=>Vn d f r fs w (by simpa using c)) ⟨.bl _,H,I,rfl,?_⟩
  rw[show a.toArray.any (eqU x)=a.any (eqU x)by simp,Qav r fs]
  exact q
 .obtain⟨a,r,b,g⟩:=I.tuple hq
  refine SeqAt.notIn_tupleAt (eqU x) b (fun w c=>Vn d f r fs w (by simpa using c)) ⟨.bl _,H,I,rfl,?_⟩
  rw[show a.toArray.any (eqU x)=a.any (eqU x)by simp,Qav r fs]
  exact q
theorem Qfi:OpR X (compareOp .NotIn) (fun x y H Q=>∃i j,x=.str i/\y=.str j/\Q (.bl (!(!(Builtin.Str.occurrences j i 0 j.length 1).isEmpty))) H):=by
 intro a s d H x y v u Q I b c h
 obtain⟨i,j,rfl,rfl,q⟩:=h
 obtain⟨t,rfl⟩:=b
 obtain⟨e,rfl⟩:=c
 exact notIn_str ⟨.bl _,H,I,rfl,q⟩
theorem Qu:CallR X (.builtin "len") (fun xs H Q=>∃p ys,xs=[.ref p]/\(SqL X.K H p ys\/SqT X.K H p ys)/\Q (.int ys.length) H):=by
 intro e s i H xs j Q I r h
 obtain⟨p,ys,rfl,hq,q⟩:=h
 obtain⟨u,rfl,g⟩:=vals1 r
 cases g
 have k:=Qcr
 rcases hq with hq | hq
 .obtain⟨c,d,b,f⟩:=I.list hq
  have a:=d.length
  exact Calls.call_len_list b.isList (by simp only[kX]<;>lia) ⟨.int ys.length,H,I.tok _,⟨s.toks+1,by rw[kX,a]⟩,q⟩
 .obtain⟨c,d,b,f⟩:=I.tuple hq
  have a:=d.length
  exact len_tuple b (by simp only[kX]<;>lia) ⟨.int ys.length,H,I.tok _,⟨s.toks+1,by rw[kX,a]⟩,q⟩
theorem Yo:CallR X (.builtin "len") (fun xs H Q=>∃z,xs=[.str z]/\z.length<=sizeLine/\Q (.int z.length) H):=by
 intro a s c H xs d Q I r h
 obtain⟨z,rfl,b,q⟩:=h
 obtain⟨u,rfl,t,rfl⟩:=vals1 r
 have e:=Qcr
 exact len_str Om ⟨.int z.length,H,I.tok _,⟨_,rfl⟩,q⟩
theorem CallR.or{f:Value}{r r':List V->Hp->VK->Prop}(h:CallR X f r)(h':CallR X f r'):CallR X f (fun xs H Q=>r xs H Q\/r' xs H Q):=by
 intro a s c H xs b Q I d q
 rcases q with q | q
 .exact h a s c H xs b Q I d q
 .exact h' a s c H xs b Q I d q
theorem Qfj:CallR X (.type "list") (fun xs H Q=>∃p ys,xs=[.ref p]/\(SqL X.K H p ys\/SqT X.K H p ys)/\∀l,H l=none->Q (.ref l) (upd H l (.lst ys))):=by
 intro j s B H xs C Q I r h
 obtain⟨p,ys,rfl,hq,q⟩:=h
 obtain⟨u,rfl,A⟩:=vals1 r
 cases A
 have fin:∀(a:List Value),Vals ys a->ys.length<=sizeLine->∀(d:Heap) (g:Nat),(∀b o',s.heap.get? b=some o'->d.get? b=some o') ->
   d.get? (qa s)=some { cls:=.type "list",dict:=none,data:=.seq a.toArray g,slots:=#[] }->EP X j B Q (.ref (qa s)) { s with heap:=d }:=fun a f i d g k e=>
  ⟨.ref (qa s),_,I.laid (t':=s.toks) k (jJ _) (show ObjOk X.prog X.w _ d _ (.lst ys)from⟨i,a,g,f,e⟩),rfl,q _ (I.hok.fresh (jJ _))⟩
 rcases hq with hq | hq
 .obtain⟨a,f,v,i⟩:=I.list hq
  have m:=f.length
  obtain⟨o,y,z,n,x⟩:=v.isList
  exact call_list_seq p (.inl rfl) y z x (fun d g k e=>fin a f i d g k e) (by simp only[kX]<;>lia)
 .obtain⟨a,f,v,i⟩:=I.tuple hq
  have m:=f.length
  obtain⟨o,y,z,n,x⟩:=v
  exact call_list_seq p (.inr rfl) y z x (fun d g k e=>fin a f i d g k e) (by simp only[kX]<;>lia)
theorem Vp:CallR X (.type "tuple") (fun xs H Q=>∃p ys,xs=[.ref p]/\((SqL X.K H p ys/\∀l,H l=none->Q (.ref l) (upd H l (.tup ys)))\/(SqT X.K H p ys/\Q (.ref p) H))):=by
 intro a s m H xs z Q I r h
 obtain⟨p,ys,rfl,h⟩:=h
 obtain⟨u,rfl,v⟩:=vals1 r
 cases v
 rcases h with⟨g,q⟩ | ⟨g,q⟩
 .obtain⟨c,i,f,k⟩:=I.list g
  have n:=i.length
  refine call_tuple_list f.isList (fun d x=>?_) (by simp only[kX]<;>lia)
  have j:Inv X a m H { s with heap:=d }:=I.kept (t':=s.toks) x
  have y:Inv X a m (upd H d.objs.size (.tup ys)) { s with heap:=d.push { cls:=.type "tuple",data:=.seq c.toArray } } :=
   j.laid (t':=s.toks) (fun b o e=>jW _ e) (jJ _) (show ObjOk X.prog X.w _ _ _ (.tup ys)from⟨k,c,i,IsTup.new _ _⟩)
  exists .ref d.objs.size,_,y,rfl,q _ (j.hok.fresh (jJ _))
 .obtain⟨c,i,f,k⟩:=I.tuple g
  exact call_tuple_same f ⟨.ref p,H,I,rfl,q⟩
def tyV(K:Fg)(T:String)(x:V)(H:Hp):Prop:=match x with
 |.str _=>T="str"
 |.int _=>T="int"
 |.ref p=>(T="list"/\∃xs,SqL K H p xs)\/(T="tuple"/\∃o,K.lookup p=some o/\o.cls=.type "tuple"/\o.dict=none) \/
   (T="dict"/\((∃kvs,H p=some (.dK kvs))\/∃kvs,H p=some (.dT kvs)))\/(T="set"/\∃S n,H p=some (.set S n))
 |_=>False
theorem Qut{T:String}{x:V}{v:Value}(I:Inv X pins σ H s)(r:RelV x v)(d:tyV X.K T x H) :
  s.TypeIs v T/\∀a,v=.ref a->∃ob,s.heap.get? a=some ob/\ob.dict=none:=by
 cases x with
 |str z=>
  obtain⟨t,rfl⟩:=r
  cases(show T="str" from d)
  exists typeIs_str s z t,fun _ e=>nomatch e
 |int i=>
  obtain⟨t,rfl⟩:=r
  cases(show T="int" from d)
  exists typeIs_int s i t,fun _ e=>nomatch e
 |ref p=>
  cases r
  rcases d with⟨rfl,q,m⟩ | ⟨rfl,o,b,l,f⟩ | ⟨rfl,b⟩ | ⟨rfl,S,n,b⟩
  .obtain⟨k,_,j,_⟩:=I.list m
   exists j.isList.typeIs,fun a e=>?_
   cases e
   obtain⟨o,n,e,c,f,_⟩:=j
   exists o,e,f
  .refine⟨⟨o,I.kIn p o b,l⟩,fun a e=>?_⟩
   cases e
   exists o,I.kIn _ o b,f
  .have z:∃o,s.heap.get? p=some o/\o.ExactDict:=by
    rcases b with⟨h,b⟩ | ⟨h,b⟩
    .obtain⟨_,_,_,_,o,_,_,e,ex,_⟩:=I.hok p _ b
     exists o,e,ex
    .obtain⟨_,_,_,_,o,_,_,e,ex,_⟩:=I.hok p _ b
     exists o,e,ex
   obtain⟨o,e,ex⟩:=z
   exists ⟨o,e,ex.1⟩,fun a g=>?_
   cases g
   exists o,e,ex.2.1
  .obtain⟨o,_,_,_,e,ex,_⟩:=I.hok p _ b
   exists ⟨o,e,ex.1⟩,fun a g=>?_
   cases g
   exists o,e,ex.2.1
 |_=>exact False.elim d
def tBM0(K:Fg)(T:String)(r:V->List V->Hp->VK->Prop)(to:TE):TE:=fun σ H Q=>to σ H fun x H1=>tyV K T x H1/\r x [] H1 Q
def tBM(K:Fg)(T:String)(r:V->List V->Hp->VK->Prop)(to:TE)(t:TA):TE:=fun σ H Q=>to σ H fun x H1=>tyV K T x H1/\t σ H1 fun xs H2=>r x xs H2 Q
variable{o:Expr}{to:TE}{t:TA}{name:Str}{apos:Pos}{T id:String}{r:V->List V->Hp->VK->Prop}
theorem Quu(pa:PlainAttrs T)(d:Slot T name id)(e:typeOf (.builtin id)=pure (.type "method_descriptor"))(u:MtR X id r)(m:PE X o to)
  (c:qb (attributeBase o name X.env (eval o X.env)=eval o X.env)) (b:qb ((apos.endLine == cpos.line)=true)):PE X (.Call (.Attribute o name apos) [] [] cpos) (tBM0 X.K T r to):=by
 intro a s j H Q I h
 refine wpAny_Call_method0_late c b (thn (m a s j H _ I h) fun v q f=>?_)
 obtain⟨x,n,g,i,l,t⟩:=f
 obtain⟨p,k⟩:=Qut g i l
 exists T,id,pa,d,e,p,k,Y39 rfl (PySem.evalArgs_none (u a q j n x [] v [] Q g i .nil t))
theorem Yt(pa:PlainAttrs T)(d:Slot T name id)(g:typeOf (.builtin id)=pure (.type "method_descriptor"))(y:MtR X id r)(w:PE X o to)(n:PA X (e::es) t)
  (b:qb (attributeBase o name X.env (eval o X.env)=eval o X.env))
  (f:((backTo cpos (starEach (e::es) X.env)).all (fun x=>!x.1)&&(backToKw cpos (keywordEach [] X.env)).all (fun x=>x.1.isSome)
   && decide ((e::es).length+([]:List Keyword).length+(if ([]:List Keyword).isEmpty then 0 else 1)<30))=true:=by rfl)
  (c:qb ((apos.endLine == cpos.line)=true)) (p:qb (starEach (e::es) X.env=(false,eval e X.env)::starEach es X.env)) (hplain:qb ((backTo cpos (starEach es X.env)).any (·.1)=false)) :
  PE X (.Call (.Attribute o name apos) (e::es) [] cpos) (tBM X.K T r to t):=by
 intro a s j H Q I h
 refine wpAny_Call_method_late b f c rfl (thn (w a s j H _ I h) fun v B i=>?_)
 obtain⟨x,z,m,k,u,C⟩:=i
 obtain⟨A,q⟩:=Qut m k u
 exists T,id,pa,d,g,A,q,?_
 have l:=n cpos a B j z _ m C
 rw[p]at l⊢
 refine Y39 (by show(false||(backTo cpos (starEach es X.env)).any (·.1))=false;rw[hplain]<;>rfl) (Calls.evalArgs_plain ?_)
 exact thn l fun us s2 ⟨vs,H2,I2,r2,q2⟩=>y a s2 j H2 x vs v us Q I2 k r2 q2
end
def MtM(X:Cx)(id:String)(r:V->List V->Hp->VK->Prop):Prop :=
 ∀(pins:Z8) (s:Shared) (σ:St) (H:Hp) (x:V) (xs:List V) (v:Value) (us:List Value) (Q:VK),Inv X pins σ H s->RelV x v->Vals xs us->r x xs H Q ->
  qd X X.A (call (.builtin id) (v::us)) (EP X pins σ Q) X.xe s
theorem Vals.one{x:V}(h:Vals [x] us):∃u,us=[u]/\RelV x u:=by
 cases h with
 |cons r t=>cases t;exists _,rfl,r
theorem Vals.two{x:V}(h:Vals [x,y] us):∃u v,us=[u,v]/\RelV x u/\RelV y v:=by
 cases h with
 |cons r t=>
  cases t with
  |cons q t=>cases t;exists _,_,rfl,r,q
theorem Vals.zero:∀{us:List Value},Vals [] us->us=[]
 |_,.nil=>rfl
theorem Vals.dropLast(h:Vals xs us):Vals xs.dropLast us.dropLast:=by
 induction h with
 |nil=>exact .nil
 |cons r t ih=>
  cases t with
  |nil=>exact .nil
  |cons q t'=>exact .cons r ih
theorem Vals.eraseIdx:∀{xs:List V} {us:List Value} (i:Nat),Vals xs us->Vals (xs.eraseIdx i) (us.eraseIdx i)
 |_,_,_,.nil=>.nil
 |_,_,0,.cons _ t=>t
 |_,_,i+1,.cons r t=>.cons r (Vals.eraseIdx i t)
theorem Vals.reverse(h:Vals xs us):Vals xs.reverse us.reverse:=by
 induction h with
 |nil=>exact .nil
 |cons r t ih=>rw[List.reverse_cons,List.reverse_cons];exact Vals.append ih (.cons r .nil)
theorem Qlj{α:Type}(l:List α):l.eraseIdx (l.length-1)=l.dropLast:=by
 induction l with
 |nil=>rfl
 |cons a r ih=>
  cases r with
  |nil=>rfl
  |cons b r=>
   have e:(a::b::r).length-1=((b::r).length-1)+1:=by
    have d:(a::b::r).length=r.length+2:=rfl
    have c:(b::r).length=r.length+1:=rfl
    lia
   rw[e,List.eraseIdx_cons_succ,ih]
   all_goals rfl
theorem Qfk{α:Type}:∀(l:List α) (i:Nat),(l.eraseIdx i).length<=l.length
 |[],_=>jJ _
 |_::_,0=>yYe _
 |_::r,i+1=>wW (Qfk r i)
section
variable{l:Addr}
theorem Inv.lset{n:Nat}{f:Array Value->Array Value}(I:Inv X pins σ H s)(g:H l=some (.lst xs))
  (e:s.heap.get? l=some { cls:=.type "list",data:=.seq its.toArray n }) (h:f its.toArray=its'.toArray) (c:Vals ys its') (hz:ys.length<=sizeLine) :
  Inv X pins σ (upd H l (.lst ys)) { s with heap:=s.heap.update l (Obj.mapSeq f),toks:=t' }:=by
 have q:=PySem.IsL.update e f
 rw[h]at q
 refine I.write (x:=l) (e:=l) (by rw[g];exact trivial) (.inl rfl) (fun i u a d=>(jXd s.heap (Obj.mapSeq f) (Ne.symm a)).trans d) ⟨_,q⟩ ?_
 exists hz,its',_,c,q
theorem Inv.lnew(I:Inv X pins σ H s)(a:Vals ys its)(hz:ys.length<=sizeLine) :
  Inv X pins σ (upd H (qa s) (.lst ys)) { s with heap:=s.heap.push { cls:=.type "list",data:=.seq its.toArray },toks:=t' } :=
 I.laid (fun _ _ q=>jW _ q) (jJ _) ⟨hz,its,0,a,yJ _ rfl⟩
theorem Inv.fresh(I:Inv X pins σ H s):H (qa s)=none:=I.hok.fresh (jJ _)
theorem Inv.lstM(I:Inv X pins σ H s)(a:H l=some (.lst xs)):xs.length<=sizeLine/\∃(its:List Value) (n:Nat),Vals xs its/\xs.length=its.length/\s.heap.get? l=some { cls:=.type "list",data:=.seq its.toArray n }:=by
 obtain⟨z,its,n,r,e⟩:=I.hok l _ a
 exists z,its,n,r,r.length,e
theorem Qrr{n:Nat}(h:n<=sizeLine):Builtin.List.listTooLong n=false:=by
 unfold Builtin.List.listTooLong
 exact xK Om
end
def Qwg:V->List V->Hp->VK->Prop:=fun x vs H Q=>∃l xs y,x=.ref l/\vs=[y]/\H l=some (.lst xs)/\xs.length<sizeLine/\Q .non (upd H l (.lst (xs++[y])))
theorem Xq:MtM X "list.append" Qwg:=by
 intro b s m H x k v o Q I d g h
 obtain⟨l,i,y,rfl,rfl,c,j,q⟩:=h
 cases d
 obtain⟨u,rfl,f⟩:=g.one
 obtain⟨z,a,n,r,p,e⟩:=I.lstM c
 refine Y63 F.slot_list_append ⟨_,e,rfl⟩ F.entry_list_append (F.args_list_append_2 _ _) (PySem.list_append l a.toArray n u (by rw[kX];lia)) ⟨e,?_⟩
 exists .non,_,I.lset (its':=a++[u]) c e (by simp) (r.append (.cons f .nil)) ?_,rfl,q
 rw[jZ,List.length_singleton]
 lia
def rPop:V->List V->Hp->VK->Prop:=fun x vs H Q=>∃l xs y,x=.ref l/\vs=[]/\H l=some (.lst xs)/\xs[xs.length-1]?=some y/\Q y (upd H l (.lst xs.dropLast))
theorem mt_pop:MtM X "list.pop" rPop:=by
 intro d s w H x t v A Q I i o h
 obtain⟨l,p,y,rfl,rfl,f,g,q⟩:=h
 cases i
 have c:=o.zero
 subst c
 obtain⟨z,a,n,r,m,e⟩:=I.lstM f
 obtain⟨u,j,k⟩:=r.get g
 have b:a.toArray[a.toArray.size-1]?=some u:=by
  show a.toArray[a.length-1]?=some u
  rw[<-jZf,<-m]
  exact j
 refine Y63 F.slot_list_pop ⟨_,e,rfl⟩ F.entry_list_pop (F.args_list_pop_1 _) (MeetsSeq.list_pop_last l a.toArray n u b (by rw[kX];lia)) ⟨e,?_⟩
 exists y,_,I.lset (its':=a.dropLast) f e ?_ r.dropLast ?_,k,q
 .show a.toArray.eraseIdxIfInBounds (a.toArray.size-1)=a.dropLast.toArray
  rw[kX,List.eraseIdxIfInBounds_toArray,Qlj]
 .rw[List.length_dropLast]
  lia
def rPopAt:V->List V->Hp->VK->Prop:=fun x vs H Q=>∃l xs i k y,x=.ref l/\vs=[.int i]/\H l=some (.lst xs)/\-(2 ^ 63)<=i/\i<2 ^ 63/\seqIndex? i xs.length=some k/\xs[k]?=some y/\Q y (upd H l (.lst (xs.eraseIdx k)))
theorem Qrs:MtM X "list.pop" rPopAt:=by
 intro c s G H x E v J Q I p D h
 obtain⟨l,j,i,k,y,rfl,rfl,d,B,m,f,g,q⟩:=h
 cases p
 obtain⟨u,rfl,A⟩:=D.one
 obtain⟨t,rfl⟩:=A
 obtain⟨z,a,n,r,C,e⟩:=I.lstM d
 obtain⟨w,o,b⟩:=r.get g
 refine Y63 F.slot_list_pop ⟨_,e,rfl⟩ F.entry_list_pop (F.args_list_pop_2 _ _)
  (MeetsSeq.list_pop_at l a.toArray n i t k w (fitsIndex_both B m) (by rw[kX,<-C];exact f) (by rw[<-jZf];exact o) (by rw[kX];lia)) ⟨e,?_⟩
 exists y,_,I.lset (its':=a.eraseIdx k) d e ?_ (r.eraseIdx k) ?_,b,q
 .show a.toArray.eraseIdxIfInBounds k=(a.eraseIdx k).toArray
  rw[List.eraseIdxIfInBounds_toArray]
 .have:=Qfk j k
  lia
def Qrt:V->List V->Hp->VK->Prop:=fun x vs H Q=>∃l xs,x=.ref l/\vs=[]/\H l=some (.lst xs)/\Q .non (upd H l (.lst xs.reverse))
theorem Qlk:MtM X "list.reverse" Qrt:=by
 intro c s k H x j v m Q I f g h
 obtain⟨l,i,rfl,rfl,d,q⟩:=h
 cases f
 have b:=g.zero
 subst b
 obtain⟨z,a,n,r,o,e⟩:=I.lstM d
 refine Y63 F.slot_list_reverse ⟨_,e,rfl⟩ F.entry_list_reverse (F.args_list_reverse_1 _) (AutoSeq1.list_reverse_list_0 l a.toArray n (by rw[kX];lia)) ⟨e,?_⟩
 exists .non,_,I.lset (its':=a.reverse) d e (by simp) r.reverse ?_,rfl,q
 rw[List.length_reverse]
 lia
def rCat:R2:=fun x y H Q=>∃l b xs zs,x=.ref l/\y=.ref b/\H l=some (.lst xs)/\H b=some (.lst zs)/\xs.length+zs.length<=sizeLine/\∀p,H p=none->Q (.ref p) (upd H p (.lst (xs++zs)))
theorem Kr:OpR X (binaryOp .Add) rCat:=by
 intro d s D H x y v u Q I k m h
 obtain⟨l,b,w,C,rfl,rfl,p,g,A,q⟩:=h
 cases k
 cases m
 obtain⟨z,c,n,r,E,e⟩:=I.lstM p
 obtain⟨F,a,B,j,i,o⟩:=I.lstM g
 refine PySem.P.add_list e o ?_ (by rw[kX,kX];lia)
 have f:c.toArray++a.toArray=(c++a).toArray:=by simp
 rw[f]
 exists .ref _,_,I.lnew (t':=s.toks) (r.append j) (by rw[jZ];lia),rfl,q _ I.fresh
end L2
namespace Att
open PySem PySem.W PySem.Calls PyProof.Rows
theorem Qaw{P:Params}{h:Heap}:∀(ns:List Int) (vs:List Value),WellAll P h vs (ns.map WData.int)->IntsAre vs ns:=by
 intro ns
 induction ns with
 |nil=>
  intro vs w
  rw[yQf]at w
  cases w
  exact .nil
 |cons n ns ih=>
  intro vs w
  rw[zX]at w
  cases w with
  |cons a b=>
   cases a
   exact .cons _ _ (ih _ b)
theorem Qnf{l:OpenLaw}{n:Nat}(o:l.most=some n){P:Params}{h:Heap}{args:List WData}{vals:List Value}
  (b:l.row.toRowW.claim.pre args=true) (g:WellAll P h vals args) :
  ∃a vs ns,vals=[Value.ref a]/\args=[WData.list (ns.map WData.int)]/\h.get? a=some { cls:=.type "list",data:=.seq vs.toArray }/\IntsAre vs ns/\ns.length<=n:=by
 have i:WShape.hasAll [] args [.list .int]=true:=(pre_splitW b).1
 have j:l.pre.holds [] { args:=args }=true:=(pre_splitW b).2
 obtain⟨d,r,rfl,p,k⟩:=hasAllW_cons i
 obtain rfl:=hasAllW_nil k
 obtain⟨t,rfl,m⟩:=hasW_list p
 obtain⟨ns,rfl⟩:=items_int m
 have c:ns.length<=n:=by
  unfold OpenLaw.pre at j
  have e:(WTm.not (.lt (.lit (.int (n:Int))) (.len (.arg 0)))).holds [] { args:=[.list (ns.map .int)] }=true:=by
   have e:=(holds_andW j).1
   rw[o]at e
   exact e
  have f:=condW_of e (w_not (w_lt w_lit (w_len_list (w_arg rfl))))
  rw[jX]at f
  refine Nat.le_of_not_lt fun q=>?_
  have s:(n:Int)<((ns.length:Nat):Int):=Om
  first
   |(rw[yX s]at f;exact Y21 f Dc)
   |(simp at f;lia)
 cases g with
 |cons w1 w2=>
  cases w2
  cases w1 with
  |list ho hall=>exists _,_,ns,rfl,rfl,ho,Qaw ns _ hall,c
theorem Qng(l:OpenLaw)(args:List WData):l.row.toRowW.claim.post args (.bool true) args=true :=
 postW_of (r:=l.row.toRowW) (X:=(true == true))
  (show WShape.has [] (.bool true) .bool=true by first | rfl | decide | simp[WShape.has,WShape.arms,WShape.armsAll])
  (show(WTm.eq .res (.lit (.bool true))).value [] { args:=args,res:=some (.bool true),after:=args }=some (.bool (true == true))from w_eq_bool (w_res rfl) w_lit) rfl
theorem attach_call{l:OpenLaw}{n:Nat}{q:Program}{d:DefRec}
  (I:l.most=some n) (i:d.params.defaults=[])
  (call:∀(w:World) (s₀ s₁:Shared) (mg mb:Z9) (fa:Addr) (o:Obj) (pm cd doc:Value) (a:Addr) (vs:List Value) (ns:List Int),
   Ground q loose [] XP w s₀ mg mb s₁.heap->YP w s₁.heap ->
   s₁.heap.get? fa=some o->o.data=.func (docDef d.name d.params d.body d.scope pm cd doc)->s₁.heap.CodeRec cd d.name->mg d.name=some (.ref fa) ->
   s₁.heap.get? a=some { cls:=.type "list",data:=.seq vs.toArray }->IntsAre vs ns->ns.length<=n->s₁.gens=#[] ->
   codeAny (model l.prog w) callerA (.call (.ref fa) ⟨[.ref a],[]⟩) (fun r s'=>r=.ok (.ret (.bool true))/\OldK s₁.heap s'.heap/\s'.os=s₁.os/\AllBare s'.gens) s₁) :
  WalkO q loose XP YP l.row.toRowW d [] (fun f vs=>PySem.call f vs):=by
 intro w s₀ s₁ mg mb G Y fa o pm cd doc E kV C x h m j v p u J g t H k y
 obtain rfl:E=.none:=Dflts.none m i
 obtain rfl:kV=.none:=Dflts.noKw m
 obtain⟨a,vs,ns,rfl,rfl,e,b,c⟩:=Qnf I g k
 refine enter_call (Y49 (call w s₀ s₁ mg mb fa o pm cd doc a vs ns G Y C (fd_plain x) h j e b c v) fun r s' z=>?_)
 obtain⟨rfl,A,F,B⟩:=z
 exists .inl ⟨.bool true,.bool true,[],rfl,fun _=>rfl,.bool true,Qng l _,fun _=>⟨List.Pairwise.nil,fun _ D=>(nomatch D)⟩⟩,A,F,B
end Att
namespace L2
open PySem PySem.Spec PyProof.Rows
theorem Qfl:∀{vs:List Value} {ns:List Int},IntsAre vs ns->Vals (ns.map V.int) vs
 |_,_,.nil=>.nil
 |_,_,.cons n t h=>.cons ⟨t,rfl⟩ (Qfl h)
def Only(H:Hp):Prop:=∀b,H b=none\/∃o xs,H b=some (.frz o (.lst xs))
theorem Qru{w:World}{mb:Z9}{CX:CXT}{k:Nat}{fa:Addr}{s₁:Shared}{vs:List Value}{ns:List Int}
  (T:K.In s₁.heap) (p:s₁.heap.Ns mainGlobals mg) (f:s₁.heap.Ns builtinsNs mb) (N:∀x:Str,x≠"__name__"->mb x=bootBuiltins x) (C:s₁.heap.NoLimit) (X:s₁.gens=#[])
  (E:s₁.heap.get? a=some { cls:=.type "list",data:=.seq vs.toArray }) (Q:IntsAre vs ns) (R:ns.length<=sizeLine) (hr:Room k callerA)
  (F:∀base:Heap,K.In base->base.Ns mainGlobals mg->FnOk P w K mg base CX k fa fd [x] sp) (j:∀(s:Shared) (u:Value),BindsTo s fd ⟨[u],[]⟩ [(x,u)])
  (I:∀H:Hp,Only H->SqL K H a (ns.map V.int)->sp [.ref a] H (fun v _=>v=.bl true) fun _ _ _=>False)
  (M:∀H e s',CX [] H s₁ (fun _ _ _=>False) e s'->False) :
  codeAny (model P w) callerA (.call (.ref fa) ⟨[.ref a],[]⟩) (fun r s'=>r=.ok (.ret (.bool true))/\OldK s₁.heap s'.heap/\s'.os=s₁.os/\AllBare s'.gens) s₁:=by
 have W:=Qfl Q
 have D:=Q.length
 -- from an abstract heap in which nothing but the script may be tracked
 have i:∀H:Hp,Only H->SqL K H a (ns.map V.int)->HOk P w H s₁.heap->(∀b,H b≠none->b=a)->(H a≠none->K.lookup a=none) ->
   codeAny (model P w) callerA (.call (.ref fa) ⟨[.ref a],[]⟩) (fun r s'=>r=.ok (.ret (.bool true))/\OldK s₁.heap s'.heap/\s'.os=s₁.os/\AllBare s'.gens) s₁:=by
  intro H U hS B O hK
  have c:∀{b:Addr} {o:Obj},s₁.heap.get? b=some o->H b=none->(hidT s₁.heap H).get? b=some o:=fun e n=>Qrk e n
  have J:∀{b:Addr} {o:Obj} {es:Array DictEntry} {ep:Nat},s₁.heap.get? b=some o->o.data=.dict es ep->H b=none:=fun{b o es ep} e d=>by
   cases q:H b with
   |none=>rfl
   |some u=>
    have L:b=a:=O b (by rw[q];simp)
    subst L
    rw[E]at e;cases e
    have d':Data.seq vs.toArray _=Data.dict es ep:=d
    cases d'
  have g:∀{b:Addr} {m:Z9},s₁.heap.Ns b m->(hidT s₁.heap H).Ns b m:=fun{b m} ⟨o,es,ep,e,d,r⟩=>⟨o,es,ep,c e (J e d),d,r⟩
  have y:K.In (hidT s₁.heap H):=fun b o e=>c (T b o e) (by
   cases q:H b with
   |none=>rfl
   |some u=>
    have L:b=a:=O b (by rw[q];simp)
    subst L
    rw[hK (by rw[q];simp)]at e;cases e)
  have hM:Mod K mg (hidT s₁.heap H):=⟨y,g p,⟨mb,g f,N⟩,let ⟨mc,h1,h2⟩:=C;⟨mc,g h1,h2⟩⟩
  have e0:Env0 P w K mg (hidT s₁.heap H) callerA [] s₁ H:=⟨rfl,hM,fun b o e=>Qvz e,kJf (Qmm _ _),trivial,fun b f=>Y21 (show b∈([]:List Addr)from f) (by simp),B,.of_eq X⟩
  refine Y49 ((F _ y (g p)).run callerA [] s₁ H ⟨[.ref a],[]⟩ [.ref a] [.ref a] _ _ hr e0 (j s₁ (.ref a)) (.cons rfl .nil) (I H U hS)) fun r s' h=>?_
  cases r with
  |error e=>exact(M H e s' h).elim
  |ok fl=>
   cases fl with
   |next=>exact False.elim h
   |brk=>exact False.elim h
   |cont=>exact False.elim h
   |ret u=>
    obtain⟨v,H',Z,l,un,t,r',q⟩:=h
    have Y:v=.bl true:=q
    subst Y
    obtain rfl:u=Value.bool true:=r'
    exists rfl,OldK.of_keep fun b o e=>?_,Z,l
    cases q:H b with
    |none=>exact un.keep b o e q (by intro z;exact Y21 (show b∈([]:List Addr)from z) (by simp)) (by simp)
    |some u=>
     rcases U b with z | ⟨ob,xs,z⟩
     .rw[q]at z;cases z
     .have z2:=un.frzs b ob _ z
      obtain⟨S,_⟩:=B b _ z
      obtain⟨e2,_⟩:=t b _ z2
      rw[e]at S;cases S
      exact e2
 cases G:K.lookup a with
 |some o=>
  -- the script is one of the module's own objects
  have e:=T a o G
  rw[E]at e
  cases e
  refine i (fun _=>none) (fun _=>.inl rfl) (.inr ⟨_,vs.toArray,_,G,rfl,rfl,rfl,by rw[kX,D];exact R,by simpa using W⟩) (fun b u z=>by have A:(none:Option HO)=some u:=z;cases A) (fun b z=>Y21 rfl z) fun z=>Y21 rfl z
 |none=>
  refine i (fun b=>if b=a then some (.frz { cls:=.type "list",data:=.seq vs.toArray } (.lst (ns.map V.int)))else none) (fun b=>?_) (.inl (.inr ⟨{ cls:=.type "list",data:=.seq vs.toArray },Y22 rfl⟩)) (fun b u z=>?_) (fun b z=>?_) fun _=>G
  .by_cases f:b=a
   .exact .inr ⟨_,_,Y22 f⟩
   .exact .inl (Y20 f)
  .by_cases f:b=a
   .have A:=(Y22 f).symm.trans z
    cases A
    subst f
    exists E,by rw[jX];exact R,vs,_,W,E
   .have A:=(Y20 f).symm.trans z
    cases A
  .by_cases f:b=a
   .exact f
   .exact Y21 (Y20 f) z
abbrev KOf{K:Fg}{h:Heap}(_:K.In h):Fg:=K
theorem Qnh{l:PySem.W.OpenLaw}{n k:Nat}{q:Program}{d:DefRec}{K:Params->Fg}{CX:World->CXT}{sp:World->Sp}
  (P:l.most=some n) (z:n<=sizeLine) (r:d.params.defaults=[]) (N:Room k callerA)
  (I:∀(w:World) (h:Heap),YP w h->(K w.params).In h)
  (F:∀(w:World) (mg:Z9) (fa:Addr) (h:Heap),(K w.params).In h->h.Ns mainGlobals mg->mg d.name=some (.ref fa) ->
   ∃fd:FuncData,(∀(s:Shared) (u:Value),BindsTo s fd ⟨[u],[]⟩ [(x,u)]) /\
    ∀base:Heap,(K w.params).In base->base.Ns mainGlobals mg->FnOk l.prog w (K w.params) mg base (CX w) k fa fd [x] (sp w))
  (p:∀(w:World) (H:Hp) (a:Addr) (ns:List Int),ns.length<=n->Only H->SqL (K w.params) H a (ns.map V.int)->sp w [.ref a] H (fun v _=>v=.bl true) fun _ _ _=>False)
  (t:∀(w:World) (H:Hp) (s:Shared) (e:Value) (s':Shared),CX w [] H s (fun _ _ _=>False) e s'->False) :
  PySem.W.WalkO q loose XP YP l.row.toRowW d [] (fun f vs=>PySem.call f vs):=by
 refine Att.attach_call P r fun w A m mg S fa o R Q E a vs ns G Y X U C y j i c D=>?_
 have B:=I w _ Y
 obtain⟨fd,J,M⟩:=F w mg fa _ B G.T.g y
 exact Qru B G.T.g G.T.b G.T.builtins G.T.nolimit D j i (wZ c z) N M J (fun H O L=>p w H a ns c O L) fun H e s'=>t w H m e s'
end L2
namespace L2
open PySem PySem.Spec PyProof.Rows
def inClass(s:Stmt)(j:Nat):Stmt:=match s with
 |.ClassDef _ _ _ body _ _ _ _ _ _ _=>body.getD j (.Pass ⟨0,0,0,0⟩)
 |_=>.Pass ⟨0,0,0,0⟩
def Xa(s:Stmt):Arguments:=match s with
 |.FunctionDef _ a _ _ _ _ _ _ _ _=>a
 |_=>{ posonlyargs:=[],args:=[],vararg:=none,kwonlyargs:=[],kw_defaults:=[],kwarg:=none,defaults:=[] }
def Qw(s:Stmt):List Stmt:=match s with
 |.FunctionDef _ _ b _ _ _ _ _ _ _=>b
 |_=>[]
def Qh(s:Stmt):Scope:=match s with
 |.FunctionDef _ _ _ _ _ _ sc _ _ _=>sc
 |_=>{ kind:=.function,names:=[],isGenerator:=false,isCoroutine:=false }
abbrev CX0:CXT:=fun _ _ _ _ _ _=>False
abbrev E0:XK:=fun _ _ _=>False
theorem Jx:Wt CX0 X E0:=fun _ _ _ _ _ _ _ h=>h.elim
structure Fun(K:Fg)(x qual:Str)(st:Stmt)(f:Addr)(fd:FuncData):Prop where
 ex:∃(oc:Value) (od:Option Addr) (kV doc pm:Value) (an:Option Addr) (cdv ct:Value) (osl:Array (Option Value)),
  fd=PySem.W.fnOf x qual (Xa st) (Qw st) (Qh st) .none kV doc pm an cdv ct/\K.lookup f=some ⟨oc,od,.func fd,osl⟩/\PySem.W.codeIn K cdv qual=true
 kp:PySem.W.keepIn K (.ref f)=true
section
variable{w:World}
theorem Fun.ok{ps:List Str}{k:Nat}(F:Fun K x qual st f fd)(S:FnScope N ps (Qh st))(d:autoParam (∀vs H Q E,sp vs H Q E->vs.length=ps.length) J8._auto_1)
  (a:∀(cdv:Value) (A:Around) (outer:List Env) (s:Shared) (H:Hp) (vs:List V) (Q:VK) (E:XK),Room k (A.deeper (envOfC qual (Qh st) (qa s) f cdv))->sp vs H Q E ->
   ∃t,PSs (cxOf CX0 P w K mg base N qual (Qh st) f cdv A outer s H E).nox (Qw st) t/\t { nx:=fun _ H'=>Q .non H',rt:=Q } (start N vs) H):FnOk P w K mg base CX0 (k+1) f fd ps sp:=by
 obtain⟨m,n,kV,j,o,p,cdv,l,g,rfl,i,c⟩:=F.ex
 refine fn_of i c S d fun A outer s H vs Q E e b=>?_
 obtain⟨t,h,q⟩:=a cdv A outer s H vs Q E e b
 exists t,h.nox,q
theorem Fun.binds{ps:List Str}(F:Fun K x qual st f fd)
  (h:autoParam (∀(kV doc pm:Value) (an:Option Addr) (cdv ct:Value) (us:List Value),us.length=ps.length->bindArgs (PySem.W.fnOf x qual (Xa st) (Qw st) (Qh st) .none kV doc pm an cdv ct) ⟨us,[]⟩=pure (ps.zip us)) J7._auto_1):Binds K fd ps []:=by
 obtain⟨c,d,kV,doc,pm,an,cdv,ct,b,rfl,e,a⟩:=F.ex
 exact .all (h kV doc pm an cdv ct)
theorem Ka{kV:Value}(l:K.lookup f=some ⟨oc,od,.func (PySem.W.fnOf x qual (Xa st) (Qw st) (Qh st) .none kV doc pm an cdv ct),osl⟩)
  (c:PySem.W.codeIn K cdv qual=true) (k:PySem.W.keepIn K (.ref f)=true):Fun K x qual st f (PySem.W.fnOf x qual (Xa st) (Qw st) (Qh st) .none kV doc pm an cdv ct):=⟨⟨oc,od,kV,doc,pm,an,cdv,ct,osl,rfl,l,c⟩,k⟩
end
theorem Qni{k:Nat}(a:Room k A):A.units+1<cLine:=zJ (xJ (by decide:1<=64) _) a.units
theorem pv(i:Nat)(d:qb (X.N[i]?=some x))(c:Vis X.env.scope x:=by first | exact inl rfl | exact Or.inr (inl rfl) | exact Or.inr (Or.inr rfl))(b:qc ((x == ("__debug__":Str))=false))
  (a:qc ((x == ("__classdict__":Str))=false)):PE X (.Name x pos) (tVar i):=Qun d c b a
theorem iteF{A B:Prop}(h:B):if false=true then A else B:=by
 rw[Y20 yY]
 exact h
theorem iteT{A B:Prop}(h:A):if true=true then A else B:=by
 rw[Y22 rfl]
 exact h
theorem ite2{c A B:Prop}[Decidable c](b:c->A)(a:¬c->B):if c then A else B:=by
 by_cases h:c
 .rw[Y22 h]
  exact b h
 .rw[Y20 h]
  exact a h
def Same(H H':Hp):Prop:=∀b o,H b=some o->H' b=some o
theorem Same.refl(H:Hp):Same H H:=fun _ _ h=>h
theorem Same.trans{H2:Hp}(a:Same H H1)(b:Same H1 H2):Same H H2:=fun c o h=>b c o (a c o h)
theorem Same.free(e:Same H H'){l:Addr}(h:H' l=Option.none):H l=none:=by
 cases q:H l with
 |none=>rfl
 |some o=>
  rw[e l o q]at h
  cases h
theorem Same.seq(e:Same H H')(h:SqL K H a xs):SqL K H' a xs:=by
 rcases h with(h | ⟨o,h⟩) | h
 .exact .inl (.inl (e _ _ h))
 .exact .inl (.inr ⟨o,e _ _ h⟩)
 .exact .inr h
theorem Qfm{w:World}{target:Expr}{it acc:Value}{env:Env}(I:Nat->Shared->Prop)
  (b:∀n s,I n s->qe prog w A (pyNext it) (fun r s1=>match r with
   |none=>R (.ok .next) s1
   |some v=>qe prog w A (letOwnedTupleGo target it v) (fun _ s1'=>qe prog w A (assign target env v) (fun _ s2=>
     qe prog w A (forIn ifs true fun c r=>if r=true then do let ok ← isTrue c env (eval c env);pure (ForInStep.yield ok)else pure (ForInStep.yield r)) (fun ok s3=>
      if ok=true then qe prog w A (eval elt env) (fun x s4=>
       qe prog w A (call (.builtin "list.append") [acc,x]) (fun _ s5=>∃m,m<n/\I m s5) (fun _ _=>False) s4) (fun _ _=>False) s3
      else ∃m,m<n/\I m s3) (fun _ _=>False) s2) (fun _ _=>False) s1') (fun _ _=>False) s1) (fun _ _=>False) s)
  (n:Nat) (h:I n s) :
  codeAny (model prog w) A (.compLoop (.ListComp elt [⟨target,iter,ifs,0⟩] scope pos) 0 it acc env) R s:=by
 refine codeAny_loop rfl I (fun n s j=>?_) n h
 show wpAny _ A ((compTurn (.ListComp elt [⟨target,iter,ifs,0⟩] scope pos) 0 it acc env).onRaise (fun x=>do noteFrame x env;theTreesLotGoes x)) _ _ s
 refine wpAny_noted ?_
 rw[compTurn_list]
 refine jQ (Y62 (jQ (Y29 (b n s j) (fun r s1 f=>?_) fun _ _ a=>a.elim)))
 cases r with
 |none=>exact kQ f
 |some v=>
  refine jQ (Y29 f (fun _ s1' d=>?_) fun _ _ a=>a.elim)
  refine jQ (Y29 d (fun _ s2 g=>jQ (Y29 g (fun ok s3 e=>?_) fun _ _ a=>a.elim)) fun _ _ a=>a.elim)
  cases ok with
  |false=>exact kQ ⟨rfl,e⟩
  |true=>
   exact jQ (jQ (Y29 e (fun x s4 i=>jQ (Y29 i (fun _ s5 k=>kQ (kQ ⟨rfl,k⟩)) fun _ _ a=>a.elim)) fun _ _ a=>a.elim))
def freeOk(sc:Scope):List (Str×NameKind)->Bool
 |[]=>true
 |(n,k)::r=>(k != .free||sc.names.lookup n == some .cell||sc.names.lookup n == some .free)&&freeOk sc r
def Yu(env:Env):List (Str×NameKind)->List (Str×Addr)->List (Str×Addr)
 |[],cs=>cs
 |(n,k)::r,cs=>Yu env r (if k=.free then(n,(env.cells.lookup n).getD 0)::cs else cs)
theorem Ky{env:Env}:∀(l:List (Str×NameKind)) (cs:List (Str×Addr)),(∀n,(n,NameKind.free)∈l->∃c,env.cells.lookup n=some c)->(∀x c,cs.lookup x=some c->env.cells.lookup x=some c) ->
  ∀x c,(Yu env l cs).lookup x=some c->env.cells.lookup x=some c
 |[],cs,_,h=>h
 |(n,k)::r,cs,hl,h=>by
  refine Ky r _ (fun m f=>hl m (kJ _ f)) fun x c e=>?_
  by_cases a:k=.free
  .rw[Y22 a]at e
   subst a
   obtain⟨g,d⟩:=hl n jY
   rw[jQd]at e
   cases b:x == n with
   |true=>
    rw[b]at e
    have:x=n:=by simpa using b
    subst this
    rw[d]at e
    simp at e
    rw[d,e]
   |false=>rw[b]at e;exact h x c e
  .rw[Y20 a]at e
   exact h x c e
theorem Kz{env:Env}:∀(l:List (Str×NameKind)) (cs:List (Str×Addr)) (x:Str),((cs.lookup x).isSome=true\/(x,NameKind.free)∈l)->((Yu env l cs).lookup x).isSome=true
 |[],cs,x,h=>by
  rcases h with h | h
  .exact h
  .exact nomatch h
 |(n,k)::r,cs,x,h=>by
  refine Kz r _ x ?_
  rcases h with h | h
  .left
   split
   .rw[jQd]
    split
    .rfl
    .exact h
   .exact h
  .rcases kK.mp h with e | e
   .cases e
    left
    rw[Y22 rfl,jQd]
    simp
   .exact .inr e
theorem Jw{env:Env}(h:∀n,(n,NameKind.free)∈scope.names->∃c,env.cells.lookup n=some c):closureFor scope env=pure (Yu env scope.names []):=by
 unfold closureFor
 suffices ∀(l:List (Str×NameKind)) (b:List (Str×Addr)),(∀n,(n,NameKind.free)∈l->∃c,env.cells.lookup n=some c)->(forIn l b fun x r=>
   if (x.2 == NameKind.free)=true then do let a ← cellOf env x.1;pure (ForInStep.yield ((x.1,a)::r))else pure (ForInStep.yield r):Sem _)=pure (Yu env l b)by
  have:=this scope.names [] h
  simp only at this⊢
  rw[this]
  rfl
 intro l
 induction l with
 |nil=>intro b _;rfl
 |cons p r ih=>
  intro b g
  obtain⟨n,k⟩:=p
  rw[List.forIn_cons]
  by_cases d:k=.free
  .subst d
   obtain⟨c,j⟩:=g n jY
   have e:cellOf env n=pure c:=by unfold cellOf;rw[j]
   have f:(NameKind.free == NameKind.free)=true:=rfl
   simp only[f,if_true,e,Yu,j,Option.getD_some]
   exact ih _ fun m i=>g m (kJ _ i)
  .have f:(k == NameKind.free)=false:=by simpa using d
   simp only[f,jJf,if_false,Yu,Y20 d]
   exact ih _ fun m i=>g m (kJ _ i)
theorem Zx{sc:Scope}:∀{l:List (Str×NameKind)},freeOk sc l=true->∀n,(n,NameKind.free)∈l->sc.names.lookup n=some .cell\/sc.names.lookup n=some .free
 |[],_,n,h=>nomatch h
 |(m,k)::r,h,n,c=>by
  simp only[freeOk,wV]at h
  rcases kK.mp c with e | e
  .cases e
   have a:=h.1
   have b:(NameKind.free != NameKind.free)=false:=rfl
   rw[b]at a
   simp only[Bool.false_or,yXd,beq_iff_eq]at a
   exact a
  .exact Zx h.2 n e
theorem Yw{env:Env}:∀{names:List (Str×NameKind)} {x:Str} {k:NameKind},(names.map fun(n,k)=>if (k == NameKind.free&&env.scope.kind == .function&&env.kindOf n == some .cell)then(n,NameKind.cell)else(n,k)).lookup x=some k ->
  ∃k0,names.lookup x=some k0/\(k=k0\/(k=.cell/\k0=.free))
 |[],_,_,h=>by simp at h
 |(n,k0)::r,x,k,h=>by
  rw[zX]at h
  by_cases b:(k0 == NameKind.free&&env.scope.kind == .function&&env.kindOf n == some .cell)=true
  .simp only[b,if_true,jQd]at h
   rw[jQd]
   cases a:x == n with
   |true=>
    rw[a]at h
    exists k0,rfl,.inr ⟨(Y5 h).symm,?_⟩
    simp only[wV,beq_iff_eq]at b
    exact b.1.1
   |false=>rw[a]at h;exact Yw h
  .simp only[b,jJf,if_false,jQd]at h
   rw[jQd]
   cases a:x == n with
   |true=>rw[a]at h;exists k0,rfl,.inl (Y5 h).symm
   |false=>rw[a]at h;exact Yw h
theorem lookup_mem{α:Type}:∀{l:List (Str×α)} {x:Str} {k:α},l.lookup x=some k->(x,k)∈l
 |[],_,_,h=>by simp at h
 |(n,k0)::r,x,k,h=>by
  rw[jQd]at h
  cases a:x == n with
  |true=>
   rw[a]at h
   have b:x=n:=by simpa using a
   have c:k0=k:=Y5 h
   subst b c
   exact jY
  |false=>rw[a]at h;exact kJ _ (lookup_mem h)
theorem HOk.but{w:World}{h:Heap}(x:HOk P w H h)(d:H a=none)(g:Heap.SameBut a h h'):HOk P w H h':=fun b f e=>by
 refine(x b f e).stay (fun c i hc q=>(g.2 c ?_).trans q) (fun _ q=>q) fun _ _ q=>q
 rintro rfl
 rcases hc with rfl | hc
 .rw[d]at e;cases e
 .rw[d]at hc;cases hc
def Qax(cp:List (Option Nat))(σ:St):St:=cp.map fun(o:Option Nat)=>match o with
 |none=>none
 |some j=>match σ[(j:Nat)]? with
  |some v=>v
  |none=>none
def Vq(X:Cx)(scope:Scope):List Str->List (Option Nat)->Bool
 |[],[]=>true
 |x::N,o::cp=>(match o with | none=>true | some j=>X.N[j]? == some x&&scope.names.lookup x == some .free)&&Vq X scope N cp
 |_,_=>false
theorem Qfn{X:Cx}{scope:Scope}:∀{N:List Str} {cp:List (Option Nat)},Vq X scope N cp=true->cp.length=N.length
 |[],[],_=>rfl
 |_::N,_::cp,h=>by
  simp only[Vq,wV]at h
  simp[Qfn h.2]
 |[],_::_,h=>by simp[Vq]at h
 |_::_,[],h=>by simp[Vq]at h
theorem Qfo{X:Cx}{scope:Scope}:∀{N:List Str} {cp:List (Option Nat)} {i:Nat} {x:Str} {v:V} {σ:St},Vq X scope N cp=true->N[i]?=some x->(Qax cp σ)[i]?=some (some v) ->
  ∃j:Nat,X.N[j]?=some x/\σ[j]?=some (some v)/\scope.names.lookup x=some .free
 |[],[],i,x,v,σ,_,h,_=>by simp at h
 |y::N,o::cp,0,x,v,σ,h,e,e2=>by
  simp only[Vq,wV]at h
  have b:y=x:=by simpa using e
  subst b
  cases o with
  |none=>simp[Qax]at e2
  |some j=>
   have a:=h.1
   simp only[wV,beq_iff_eq]at a
   exists j,a.1,?_,a.2
   simp only[Qax,zX,List.getElem?_cons_zero,Option.some.injEq]at e2
   cases q:σ[j]? with
   |none=>rw[q]at e2;cases e2
   |some z=>rw[q]at e2;exact congrArg some e2
 |y::N,o::cp,i+1,x,v,σ,h,e,e2=>by
  simp only[Vq,wV]at h
  exact Qfo (i:=i) h.2 (by simpa using e) (by simpa[Qax]using e2)
 |[],_::_,_,_,_,_,h,_,_=>by simp[Vq]at h
 |_::_,[],_,_,_,_,h,_,_=>by simp[Vq]at h
def PF(X:Cx)(ifs:List Expr)(t:TT):Prop :=
 ∀(pins:Z8) (s:Shared) (σ:St) (H:Hp) (Q:Bool->Hp->Prop),Inv X pins σ H s->t σ H Q ->
  qd X X.A (forIn ifs true fun c r=>if r=true then do let ok ← isTrue c X.env (eval c X.env);pure (ForInStep.yield ok)else pure (ForInStep.yield r)) (TP X pins σ Q) X.xe s
def tYes:TT:=fun _ H Q=>Q true H
theorem Zg:PF X [] tYes:=fun _ _ _ H _ I h=>wpAny_tests_nil ⟨H,I,h⟩
theorem Zh{c:Expr}{t:TT}(d:PT X c t):PF X [c] t:=fun a s b H Q I h=>wpAny_tests_one (d a s b H Q I h)
def LcW(J:It)(D:Addr)(τ0:St)(H:Hp)(g:TG)(tt:TT)(te:TE)(Q:Addr->Hp->Prop):Prop:=∃W:Nat->Nat->St->List V->Hp->Prop,(∃m,W 0 m τ0 [] (upd H D (.lst [])))/\∀i m τ ys H,W i m τ ys H ->
 H D=some (.lst ys)/\((J.stop i H/\Q D H)\/(J.go i H/\ys.length<sizeLine/\∃(N1:St->V->Hp->Prop) (N2:St->Hp->Prop),(∀τ v H,N1 τ v H->∃m',m'<m/\W (i+1) m' τ (ys++[v]) (upd H D (.lst (ys++[v]))))/\(∀τ H,N2 τ H->∃m',m'<m/\W (i+1) m' τ ys H) /\
  ∀x H',J.yld i H x H'->g x τ H' fun σ2 H2=>tt σ2 H2 fun ok H3=>if ok=true then te σ2 H3 fun v H4=>H4 D=some (.lst ys)/\N1 σ2 v H4 else N2 σ2 H3))
def tLC(cp:List (Option Nat))(wi:TI)(g:TG)(tt:TT)(te:TE)(σ:St)(H:Hp)(Q:Addr->Hp->Prop):Prop:=wi σ H fun J H1=>∀D,H1 D=none->LcW J D (Qax cp σ) H1 g tt te Q
structure Drw(P:Program)(w:World)(it l:Addr)(st:Nat->Heap->Prop)(src:List Value->Heap->Prop):Prop where
 obj:∀i h,st i h->∃o,h.get? it=some o/\∀v,o.data≠.cell v
 keep:∀i h h',st i h->(∀o,h.get? it=some o->h'.get? it=some o)->st i h'
 srck:∀xs h h',src xs h->(∀o,h.get? l=some o->h'.get? l=some o)->src xs h'
 item:∀(A:Around) (E:VP) (s:Shared) (i:Nat) (xs:List Value) (x:Value) (Q:VP),st i s.heap->src xs s.heap->xs[i]?=some x ->
  (∀h',st (i+1) h'->Heap.SameBut it s.heap h'->Q x { s with heap:=h' })->qe P w A (Builtin.SmallTypes.nextOf (.ref it)) Q E s
 done:∀(A:Around) (E:VP) (s:Shared) (i:Nat) (xs:List Value) (Q:VP),A.handled=none->st i s.heap->src xs s.heap->xs[i]?=none ->
  (∀h' e,Heap.ExtBut it s.heap h'->(∃o,h'.get? e=some o/\o.cls=.type "StopIteration")->E (.ref e) { s with heap:=h' })->qe P w A (Builtin.SmallTypes.nextOf (.ref it)) Q E s
theorem Qrv{w:World}(g l:Addr):Drw P w g l (fun i h=>h.IsListIter g l i) (fun xs h=>h.IsList l xs.toArray) where
 obj:=fun i h a=>by
  obtain⟨o,e,c,d⟩:=a
  exists o,e,fun v z=>by rw[d]at z;cases z
 keep:=fun i h n a k=>a.at k
 srck:=fun xs h n b k=>b.at k
 item:=fun A E s i xs x Q a b f j=>wpAny_nextOf_list_item a b (by simpa using f) j
 done:=fun A E s i xs Q m a b f p=>wpAny_nextOf_list_end m a b (by simpa using f) p
section
variable{w:World}
theorem Qay{t:Addr}{xs:Array Value}{x:Value}{Q:VP}(c:s.heap.IsTupleIter it t i)(d:s.heap.IsTuple t xs)(k:xs[i]?=some x)
  (e:∀h',h'.IsTupleIter it t (i+1)->Heap.SameBut it s.heap h'->Q x { s with heap:=h' }):qe P w A (Builtin.SmallTypes.nextOf (.ref it)) Q E s:=by
 obtain⟨l,b,g,a⟩:=id c
 obtain⟨m,f,_,n,j⟩:=d
 unfold Builtin.SmallTypes.nextOf
 refine jQ (wpAny_callSpecial?_slot (name:=Str.ofString "__next__") c.typeIs Y52 (Y25 Y52 c.typeIs F.entry_tuple_iterator_next ?_ (F.args_tuple_iterator_next_1 _)))
 show wpAny _ _ (field (.ref it) 0 >>= _) _ _ s
 refine jQ (Y23 b a (x:=.ref t) rfl ?_)
 show wpAny _ _ (if (Value.ref t == Value.none)=true then _ else _) _ _ s
 rw[Y20 (show ¬((Value.ref t == Value.none)=true)from yY)]
 show wpAny _ _ (field (.ref it) 1 >>= _) _ _ s
 refine jQ (Y23 b a (x:=.int i 0) rfl ?_)
 show wpAny _ _ (seqItems? (.ref t) >>= _) _ _ s
 refine jQ (wpAny_seqItems f j ?_)
 simp only[jYe,k]
 refine jQ (Y53 b a (by simp) (kQ ⟨x,rfl,kQ (e _ ?_ (Y67 ..))⟩))
 exists _,jXf _ b (Y61 (Y42 a _)),(Obj.cls_mapFields ..).trans g,?_
 rw[Y42 a];simp[rawInt]
theorem Qck{t:Addr}{xs:Array Value}{Q:VP}(f:A.handled=none)(c:s.heap.IsTupleIter it t i)(g:s.heap.IsTuple t xs)(n:xs[i]?=none)
  (k:∀h' e,Heap.ExtBut it s.heap h'->(∃o,h'.get? e=some o/\o.cls=.type "StopIteration")->E (.ref e) { s with heap:=h' }):qe P w A (Builtin.SmallTypes.nextOf (.ref it)) Q E s:=by
 obtain⟨q,d,p,b⟩:=id c
 obtain⟨r,j,_,u,l⟩:=g
 unfold Builtin.SmallTypes.nextOf
 refine jQ (wpAny_callSpecial?_slot (name:=Str.ofString "__next__") c.typeIs Y52 (Y25 Y52 c.typeIs F.entry_tuple_iterator_next ?_ (F.args_tuple_iterator_next_1 _)))
 show wpAny _ _ (field (.ref it) 0 >>= _) _ _ s
 refine jQ (Y23 d b (x:=.ref t) rfl ?_)
 show wpAny _ _ (if (Value.ref t == Value.none)=true then _ else _) _ _ s
 rw[Y20 (show ¬((Value.ref t == Value.none)=true)from yY)]
 show wpAny _ _ (field (.ref it) 1 >>= _) _ _ s
 refine jQ (Y23 d b (x:=.int i 0) rfl ?_)
 show wpAny _ _ (seqItems? (.ref t) >>= _) _ _ s
 refine jQ (wpAny_seqItems j l ?_)
 simp only[jYe,n]
 refine jQ (Y58 (jQ (Y53 d b (by simp) ?_)))
 show wpAny _ _ (newExc (.type "StopIteration") [] >>= _) _ _ _
 refine jQ ?_
 simp only[newExc,newTuple]
 refine jQ (Y26 ?_ (by size_fits))
 refine jQ (m:=firstArgMember _ _) (Y32 (a:=Value.none) (by first | rfl | (simp only[firstArgMember];rfl)) ?_)
 refine Y26 ?_ (by size_fits)
 simp only[raiseNew]
 refine jQ (wpAny_handled ?_)
 first | rw[show A.in1.handled=none from f] | rw[f]
 exact jQ (kQ (wpAny_throw (k _ _ (((Y67 ..).extBut.push _).push _) ⟨_,yJ _ rfl,rfl⟩)))
end
theorem Qwh{w:World}(g l:Addr):Drw P w g l (fun i h=>h.IsTupleIter g l i) (fun xs h=>h.IsTuple l xs.toArray) where
 obj:=fun i h a=>by
  obtain⟨o,e,c,d⟩:=a
  exists o,e,fun v z=>by rw[d]at z;cases z
 keep:=fun i h n a k=>a.at k
 srck:=fun xs h n b k=>b.at k
 item:=fun A E s i xs x Q a b f j=>Qay a b (by simpa using f) j
 done:=fun A E s i xs Q m a b f p=>Qck m a b (by simpa using f) p
def Jl(n:String)(l:Addr):Obj:={ cls:=.type n,data:=.fields #[.ref l,.int 0 0] }
structure Itr0(n:String)(l:Addr)(pr:Heap->Prop):Prop where
 go:∀(P:Program) (w:World) (A:Around) (E:VP) (s:Shared) (Q:VP),pr s.heap->Q (.ref (qa s)) { s with heap:=s.heap.push (Jl n l) }->qe P w A (pyIter (.ref l)) Q E s
 push:∀h o,pr h->pr (h.push o)
theorem Qnj(l:Addr)(xs:Array Value):Itr0 "list_iterator" l (fun h=>h.IsList l xs):=⟨fun _ _ _ _ _ _ a h=>Y51 a h,fun _ _ a=>a.push _⟩
theorem Qrw(l:Addr)(xs:Array Value):Itr0 "tuple_iterator" l (fun h=>h.IsTuple l xs):=⟨fun _ _ _ _ _ _ a h=>wpAny_pyIter_tuple a h,fun _ _ a=>a.push _⟩
def Sq(K:Fg)(m:Bool)(H:Hp)(a:Addr)(xs:List V):Prop:=if m=true then SqL K H a xs else SqT K H a xs
def itN(m:Bool):String:=if m=true then "list_iterator" else "tuple_iterator"
def itSt(m:Bool)(it l:Addr)(i:Nat)(h:Heap):Prop:=if m=true then h.IsListIter it l i else h.IsTupleIter it l i
def Qrx(m:Bool)(l:Addr)(xs:List Value)(h:Heap):Prop:=if m=true then h.IsList l xs.toArray else h.IsTuple l xs.toArray
theorem Jm{w:World}(m:Bool)(a l:Addr):Drw P w a l (itSt m a l) (Qrx m l):=by
 cases m
 .exact Qwh a l
 .exact Qrv a l
theorem Qnk(m:Bool)(l:Addr)(xs:List Value):Itr0 (itN m) l (Qrx m l xs):=by
 cases m
 .exact Qrw l xs.toArray
 .exact Qnj l xs.toArray
theorem Qjc(m:Bool){h:Heap}{l:Addr}(e:h.get? it=some (Jl (itN m) l)):itSt m it l 0 h:=by
 cases m
 .exact⟨_,e,rfl,rfl⟩
 .exact⟨_,e,rfl,rfl⟩
theorem Inv.sq{m:Bool}(I:Inv X pins σ H s)(h:Sq X.K m H a xs):∃its:List Value,Vals xs its/\Qrx m a its s.heap/\xs.length<=sizeLine:=by
 cases m
 .obtain⟨its,c,p,b⟩:=I.tuple h
  exists its,c,p,by first | exact b | lia
 .obtain⟨its,c,p,b⟩:=I.list h
  exists its,c,p.isList,by first | exact b | lia
theorem Inv.sq_inj{m:Bool}(I:Inv X pins σ H s)(h:Sq X.K m H a xs)(h':Sq X.K m H a ys):xs=ys:=by
 cases m
 .exact I.tuple_inj h h'
 .exact I.list_inj h h'
theorem Inv.tupNew{T:Addr}(I:Inv X pins σ H s)(j:(qa s)<=T)(r:Vals xs its)(hz:xs.length<=sizeLine)(e:h'.get? T=some { cls:=.type "tuple",data:=.seq its.toArray })
  (f:∀b∈ch,FpOk X pins H b) (k:∀b o,b∉ch->s.heap.get? b=some o->h'.get? b=some o) (A:∀b∈ch,∃o,h'.get? b=some o):Inv X pins σ (upd H T (.tup xs)) { s with heap:=h' }:=by
 have i:H T=none:=I.hok.fresh j
 have l:∀b o,H b=some o->b∉ch:=fun b o e z=>by rw[(f b z).1]at e;cases e
 refine I.step (g':=s.gens) (t':=s.toks) (d':=s.drawn) (ch:=ch) (fun b a=>⟨(f b a).2.2.2.1,(f b a).2.1,(f b a).2.2.2.2.1,(f b a).2.2.2.2.2⟩) (fun b o _ _ hc q _=>k b o hc q) (fun b o _ _ hc q _=>⟨o.slots,k b o hc q⟩) (fun b o _ q n=>?_) (fun b o hc q=>⟨o,k b o hc q⟩)
  (fun b xs q=>?_) (fun b o u q=>?_) (fun b ps q=>⟨#[],?_⟩) (fun m y=>?_) (fun b p q=>?_) I.bare
 .rw[Qj (xZ (xW (zQ q) j))];exact n
 .rw[Qj (Qm q i)];exact q
 .rw[Qj (Qm q i)];exact q
 .rw[Qj (Qm q i),Array.append_empty];exact q
 .obtain⟨o,x,w,q,d,r⟩:=y
  exists o,x,w,k _ o (fun z=>(f _ z).2.1 rfl) q,d,r
 .by_cases a:b=T
  .subst a
   rw[Qc]at q;cases q
   exists hz,its,r,_,e,rfl,_,rfl
  .rw[Qj a]at q
   refine(I.hok b p q).stay (fun c v hc r=>k c v ?_ r) (fun c r=>by rw[Qj (Qm r i)];exact r) fun c xs r=>by rw[Qj (Qm r i)];exact r
   rcases hc with rfl | hc
   .exact l _ _ q
   .exact l _ _ hc
theorem Qry{m:Bool}{xs:List Value}{h:Heap}(e:Qrx m a xs h):a<h.objs.size:=by
 cases m
 .obtain⟨o,e,_⟩:=e;exact zQ e
 .obtain⟨o,e,_⟩:=e;exact zQ e
def isiV(K:Fg)(H:Hp):V->String->Bool->Prop
 |.int _,T,b=>(T="int"/\b=true)\/(T="bool"/\b=false)\/(T="tuple"/\b=false)
 |.bl _,T,b=>(T="int"/\b=true)\/(T="bool"/\b=true)\/(T="tuple"/\b=false)
 |.ref a,T,b=>(∃xs,SqT K H a xs)/\((T="tuple"/\b=true)\/(T="int"/\b=false)\/(T="bool"/\b=false))
 |_,_,_=>False
theorem Qjd:CallR X (.builtin "isinstance") (fun xs H Q=>∃x T b,xs=[x,.ty T]/\isiV X.K H x T b/\Q (.bl b) H):=by
 intro f s l H xs w Q I p h
 obtain⟨x,T,b,rfl,d,q⟩:=h
 obtain⟨u,v,rfl,g,j⟩:=p.two
 cases j
 have fin:∀(i:Nat),EP X f l Q (.bool b) { s with toks:=i }:=fun i=>⟨.bl b,H,I.tok i,rfl,q⟩
 cases x with
 |int n=>
  obtain⟨t,rfl⟩:=g
  rcases d with⟨rfl,rfl⟩ | ⟨rfl,rfl⟩ | ⟨rfl,rfl⟩
  .exact IsiPair.int_int (fin s.toks)
  .exact IsiPair.int_bool (fin _)
  .exact IsiPair.int_tuple (fin _)
 |bl n=>
  cases g
  rcases d with⟨rfl,rfl⟩ | ⟨rfl,rfl⟩ | ⟨rfl,rfl⟩
  .exact IsiPair.bool_int (fin s.toks)
  .exact IsiPair.bool_bool (fin s.toks)
  .exact IsiPair.bool_tuple (fin _)
 |ref a=>
  cases g
  obtain⟨⟨xs,m⟩,d⟩:=d
  obtain⟨k,r,⟨o,e,c,_⟩,_⟩:=I.tuple m
  rcases d with⟨rfl,rfl⟩ | ⟨rfl,rfl⟩ | ⟨rfl,rfl⟩
  .exact IsiPair.tuple_tuple e c (fin s.toks)
  .exact IsiPair.tuple_int e c (fin _)
  .exact IsiPair.tuple_bool e c (fin _)
 |non=>exact d.elim
 |str _=>exact d.elim
 |byt _=>exact d.elim
 |flt _=>exact d.elim
 |ty _=>exact d.elim
def CDivB(i j:Int):Prop:=0<j/\j.natAbs.log2<9000
theorem Qje:OpR X (binaryOp .FloorDiv) (rI CDivB fun i j=>.int (i / j)):=opI fun i j _ _ _ _ _ a q=>by
 refine floordiv_int (yXa a.1) ?_ (.inl (PyProof.noPylong_of_log2 a.2))
 rw[Int.fdiv_eq_ediv_of_nonneg _ (Int.le_of_lt a.1)]
 exact q
theorem Vr(j:X.calm=true):CallR X (.builtin "sum") (fun xs H Q=>∃(a:Addr) (ns:List Int),xs=[.ref a]/\SqL X.K H a (ns.map V.int)/\Q (.int ns.sum) H):=by
 intro g s y H xs x Q I o h
 obtain⟨a,ns,rfl,l,q⟩:=h
 obtain⟨u,rfl,n⟩:=o.one
 cases n
 obtain⟨b,r,p,z⟩:=I.list l
 have f:IntsAre b.toArray.toList ns:=intsAre_of r
 have c:AllInts b.toArray:=f.allInts
 obtain⟨xs,e⟩:=c.items
 have d:s.heap.IsList a (intItems xs):=e▸p.isList
 refine sum_intListG (I.ok.hd j) d fun v A w i=>?_
 have m:ns=xs.toList.map (·.1):=by
  rw[<-nums_intItems,<-e]
  exact(show numsOf b.toArray.toList=ns from f.numsOf).symm
 have k:preSum (numAt xs) xs.size=ns.sum:=by
  rw[preSum_eq,zW (by simp),m]
 rw[k]
 exists .int ns.sum,H,I.kept i,⟨_,rfl⟩,q
theorem Qnl{bs:List Bool}(r:Vals (bs.map V.bl) its){v:Value}(h:its[i]?=some v):∃b,bs[i]?=some b/\v=.bool b:=by
 have e:=r.length
 obtain⟨f,_⟩:=jK.mp h
 rw[jX]at e
 have a:bs[i]?=some bs[i]:=gE Om
 obtain⟨u,c,d⟩:=r.get (i:=i) (x:=.bl bs[i]) (by rw[yZ,a];rfl)
 rw[h]at c;cases c
 exists _,a,d
theorem Qrz(bs:List Bool):((List.range bs.length).all fun i=>(bs[i]?).getD true)=bs.all id:=by
 rw[jJc]
 simp only[jYc,kKa,id]
 constructor
 .intro h b c
  obtain⟨i,a,e⟩:=kJd c
  have:=h i a
  rw[gE a]at this
  simpa[e]using this
 .intro h i a
  rw[gE a]
  exact h _ (yQb a)
theorem Qsa(bs:List Bool):((List.range bs.length).any fun i=>(bs[i]?).getD false)=bs.any id:=by
 rw[jJc]
 simp only[jXe,kKa,id]
 constructor
 .rintro⟨i,a,h⟩
  rw[gE a]at h
  exists _,yQb a,h
 .rintro⟨b,c,h⟩
  obtain⟨i,a,e⟩:=kJd c
  exists i,a,by rw[gE a];simpa[e]using h
theorem Qnm{h:Heap}(a:∀b x,b∉[h.objs.size]->(h.push o).get? b=some x->h'.get? b=some x):∀b x,h.get? b=some x->h'.get? b=some x:=fun b x e=>
 a b x (fun c=>by rw[jV.mp c]at e;exact jZd _ (zQ e)) (jW _ e)
theorem Qnn(l:X.calm=true):CallR X (.builtin "all") (fun xs H Q=>∃(a:Addr) (bs:List Bool),xs=[.ref a]/\SqL X.K H a (bs.map V.bl)/\Q (.bl (bs.all id)) H):=by
 intro j s B H xs z Q I t h
 obtain⟨a,bs,rfl,m,q⟩:=h
 obtain⟨u,rfl,o⟩:=t.one
 cases o
 obtain⟨c,r,p,C⟩:=I.list m
 have d:a<(qa s):=by obtain⟨_,e,_⟩:=p.isList;exact zQ e
 have g:=r.length
 rw[jX]at g
 refine call_all_walk (Y51 p.isList ?_)
 exists (qa s),[(qa s),a],[(qa s)],c.toArray.size,_,_,fun i=>(bs[i]?).getD true,rfl,Walks.list (A:=X.A.in1) (I.ok.hd l) _ a (xZ d) c.toArray,⟨⟨_,yJ _ rfl,rfl,rfl⟩,p.isList.push _⟩,fun i v F y w n f=>?_,fun x D k=>?_
 .obtain⟨b,e,rfl⟩:=Qnl r (by simpa using n)
  simp only[e,Option.getD_some]at f
  exact Y31 f
 .rw[kX,<-g,Qrz]
  exists .bl (bs.all id),H,I.kept (Qnm k),rfl,q
theorem Qno(l:X.calm=true):CallR X (.builtin "any") (fun xs H Q=>∃(a:Addr) (bs:List Bool),xs=[.ref a]/\SqL X.K H a (bs.map V.bl)/\Q (.bl (bs.any id)) H):=by
 intro j s B H xs z Q I t h
 obtain⟨a,bs,rfl,m,q⟩:=h
 obtain⟨u,rfl,o⟩:=t.one
 cases o
 obtain⟨c,r,p,C⟩:=I.list m
 have d:a<(qa s):=by obtain⟨_,e,_⟩:=p.isList;exact zQ e
 have g:=r.length
 rw[jX]at g
 refine call_any_walk (Y51 p.isList ?_)
 exists (qa s),[(qa s),a],[(qa s)],c.toArray.size,_,_,fun i=>(bs[i]?).getD false,rfl,Walks.list (A:=X.A.in1) (I.ok.hd l) _ a (xZ d) c.toArray,⟨⟨_,yJ _ rfl,rfl,rfl⟩,p.isList.push _⟩,fun i v F y w n f=>?_,fun x D k=>?_
 .obtain⟨b,e,rfl⟩:=Qnl r (by simpa using n)
  simp only[e,Option.getD_some]at f
  exact Y31 f
 .rw[kX,<-g,Qsa]
  exists .bl (bs.any id),H,I.kept (Qnm k),rfl,q
theorem Qhj{α:Type}{xs ys:List α}(b:xs.length=ys.length)(h:∀(i:Nat) x y,xs[i]?=some x->ys[i]?=some y->x=y):xs=ys:=by
 refine List.ext_getElem? fun i=>?_
 by_cases a:i<xs.length
 .rw[gE a,gE (by lia:i<ys.length)]
  exact congrArg some (h i _ _ (gE a) (gE Om))
 .rw[kZb Om,kZb Om]
theorem Vs{n:Nat}{e:Nat->Bool}:(List.range n).all e=true↔∀i,i<n->e i=true:=by simp[jYc]
open PySem.SeqAt Classical in
def Fn(K:Fg)(mg:Z9)(x:Str)(st:Stmt):Prop:=∃f fd,Fun K x x st f fd/\mg x=some (.ref f)
theorem Yn{h:Heap}{kV:Value}(X:K.In h)(G:h.Ns mainGlobals mg)
  (a:PySem.W.nsIn K mainGlobals x=some (some (.ref f))) (l:K.lookup f=some ⟨oc,od,.func (PySem.W.fnOf x x (Xa st) (Qw st) (Qh st) .none kV doc pm an cdv ct),osl⟩) (c:PySem.W.codeIn K cdv x=true) (k:PySem.W.keepIn K (.ref f)=true):Fn K mg x st :=
 ⟨f,_,Ka l c k,PySem.W.mg_of X G a⟩
structure Cal(P:Program)(w:World)(K:Fg)(mg:Z9)(base:Heap)(k:Nat)(x:Str)(ps:List Str)(sp:Sp):Prop where
 ex:∃f fd,FnOk P w K mg base CX0 k f fd ps sp/\mg x=some (.ref f)/\PySem.W.keepIn K (.ref f)=true/\Binds K fd ps []
theorem Xv{w:World}{k:Nat}{ps:List Str}(F:Fn K mg x st)(S:FnScope N ps (Qh st))
  (c:autoParam (∀(kV doc pm:Value) (an:Option Addr) (cdv ct:Value) (us:List Value),us.length=ps.length->bindArgs (PySem.W.fnOf x x (Xa st) (Qw st) (Qh st) .none kV doc pm an cdv ct) ⟨us,[]⟩=pure (ps.zip us)) J7._auto_1) (b:autoParam (∀vs H Q E,sp vs H Q E->vs.length=ps.length) J8._auto_1)
  (a:∀(f:Addr) (cdv:Value) (A:Around) (outer:List Env) (s:Shared) (H:Hp) (vs:List V) (Q:VK) (E:XK),Room k (A.deeper (envOfC x (Qh st) (qa s) f cdv))->sp vs H Q E ->
   ∃t,PSs (cxOf CX0 P w K mg base N x (Qh st) f cdv A outer s H E).nox (Qw st) t/\t { nx:=fun _ H'=>Q .non H',rt:=Q } (start N vs) H):Cal P w K mg base (k+1) x ps sp:=by
 obtain⟨f,d,F,m⟩:=F
 exists f,d,F.ok S b (a f),m,F.kp,F.binds c
theorem Xk{k:Nat}{ps:List Str}{t:TA}{p:Pos}(C:Cal X.prog X.w X.K X.mg X.base k x ps sp)(d:Room k X.A)(h:PA X (e::es) t)(g:qb (Gl X x))
  (a:qc ((x == ("__debug__":Str))=false)) (he:qb (starEach (e::es) X.env=(false,eval e X.env)::starEach es X.env)) (c:qb ((backTo pos (starEach es X.env)).any (·.1)=false)) :
  PE X (.Call (.Name x p) (e::es) [] pos) (Qwd sp [] E0 t):=by
 obtain⟨f,j,F,m,i,b⟩:=C.ex
 exact Qna F d g m i b .nil Jx h a he c
theorem Qhk{T:String}(e:X.mg x=none)(c:bootBuiltins x=some (.type T))(b:qb (Gl X x))(d:qc (x≠"__name__"))(a:qc ((x == ("__debug__":Str))=false)):PE X (.Name x pos) (tC (.ty T)) :=
 Qwa b e c (v:=.ty T) rfl d a
def gPair(K:Fg)(i j:Nat):TG:=gTup K 2 (Qla (Vl i) (Qla (Vl j) gNil))
theorem Wc{y:Str}{py:Pos}{k:Nat}(d:X.K=K)(f:X.calm=true)(b:X.N.Nodup)(g:X.N[i]?=some x)(e:X.N[j]?=some y)(c:qh X x=some .local)(a:qh X y=some .local) :
  PG X (.Tuple [.Name x px,.Name y py] k pos) (gPair K i j):=by
 subst d
 exact Qiw f (Zr (Qt b g (.inl c) (.inr c)) (Zr (Qt b e (.inl a) (.inr a)) Qdo))
theorem Xr:bootBuiltins "len"=some (.builtin "len"):=Dk
theorem Qjf:bootBuiltins "sum"=some (.builtin "sum"):=Dk
theorem bt_all:bootBuiltins "all"=some (.builtin "all"):=Dk
theorem bt_any:bootBuiltins "any"=some (.builtin "any"):=Dk
theorem Ya:bootBuiltins "isinstance"=some (.builtin "isinstance"):=Dk
theorem Qnp:bootBuiltins "min"=some (.builtin "min"):=Dk
theorem Qnq:bootBuiltins "sorted"=some (.builtin "sorted"):=Dk
theorem Qnr:bootBuiltins "int"=some (.type "int"):=Dk
theorem Qns:bootBuiltins "bool"=some (.type "bool"):=Dk
theorem Kj:bootBuiltins "tuple"=some (.type "tuple"):=Dk
theorem Qhl:bootBuiltins "list"=some (.type "list"):=Dk
theorem Qaz:bootBuiltins "dict"=some (.type "dict"):=Dk
theorem Qfp:bootBuiltins "enumerate"=some (.type "enumerate"):=Dk
theorem Qhm:bootBuiltins "reversed"=some (.type "reversed"):=Dk
theorem Qd(h:H p=none)(o:HO):Same H (upd H p o):=fun b u q=>by rw[Qj (Qm q h)];exact q
theorem Same.tup{K:Fg}{H H':Hp}{a:Addr}{xs:List V}(e:Same H H')(h:SqT K H a xs):SqT K H' a xs:=by
 rcases h with(h | ⟨o,h⟩) | h
 .exact .inl (.inl (e _ _ h))
 .exact .inl (.inr ⟨o,e _ _ h⟩)
 .exact .inr h
theorem Same.sq{m:Bool}(e:Same H H')(h:Sq K m H a xs):Sq K m H' a xs:=by
 cases m
 .exact Same.tup e h
 .exact e.seq h
theorem Xb(h:H a=some (.tup xs)):SqT K H a xs:=.inl (.inl h)
theorem Qb(h:H a=some (.lst xs)):SqL K H a xs:=.inl (.inl h)
theorem Zi{n:Nat}{Q:Addr->Hp->Prop}{D:Addr}(a:Nat->St->List V->Hp->Prop)
  (r:a 0 τ0 [] (upd H D (.lst []))) (f:∀i τ ys H,i<=n->a i τ ys H->H D=some (.lst ys)/\ys.length<sizeLine) (j:∀i τ ys H,i<n->a i τ ys H->J.go i H) (c:∀τ ys H,a n τ ys H->J.stop n H)
  (l:∀i τ ys H x H',i<n->a i τ ys H->J.yld i H x H'->g x τ H' fun σ2 H2=>tt σ2 H2 fun ok H3=>if ok=true then te σ2 H3 fun v H4=>H4 D=some (.lst ys)/\a (i+1) σ2 (ys++[v]) (upd H4 D (.lst (ys++[v])))else a (i+1) σ2 ys H3)
  (k:∀τ ys H,a n τ ys H->Q D H) :
  LcW J D τ0 H g tt te Q:=by
 exists fun i m τ ys H=>m=n-i/\i<=n/\a i τ ys H,⟨n,by simp,wJ _,r⟩,?_
 rintro i m τ ys H ⟨rfl,h,p⟩
 obtain⟨d,o⟩:=f i τ ys H h p
 exists d,?_
 by_cases b:i<n
 .refine .inr ⟨j i τ ys H b p,o,fun τ v H=>a (i+1) τ (ys++[v]) (upd H D (.lst (ys++[v]))),fun τ H=>a (i+1) τ ys H,fun τ v H q=>⟨n-(i+1),Om,rfl,b,q⟩,fun τ H q=>⟨n-(i+1),Om,rfl,b,q⟩,fun x H' y=>l i τ ys H x H' b p y⟩
 .have e:i=n:=Om
  subst e
  exact .inl ⟨c τ ys H p,k τ ys H p⟩
theorem Z5{n:Nat}{Q:Addr->Hp->Prop}{D:Addr}(us:List V)(k:us.length=n)(a:Nat->St->List V->Hp->Prop)(j:a 0 τ0 [] (upd H D (.lst [])))(b:∀i τ ys H,i<=n->a i τ ys H->(H D=some (.lst ys)/\ys.length<sizeLine)/\SqL K H d us)(f:∀i τ ys H x H',i<n->a i τ ys H->(Itl K d).yld i H x H'->g x τ H' fun σ2 H2=>tt σ2 H2 fun ok H3=>if ok=true then te σ2 H3 fun v H4=>H4 D=some (.lst ys)/\a (i+1) σ2 (ys++[v]) (upd H4 D (.lst (ys++[v])))else a (i+1) σ2 ys H3)
  (e:∀τ ys H,a n τ ys H->Q D H) :LcW (Itl K d) D τ0 H g tt te Q:=Zi a j (fun i τ ys H c h=>(b i τ ys H c h).1) (fun i τ ys H c h=>⟨us,_,(b i τ ys H (Nat.le_of_lt c) h).2,gE Om⟩) (fun τ ys H h=>⟨us,(b n τ ys H (Nat.le_refl _) h).2,Om⟩) f e
def insV(xs:List V)(k:Nat)(y:V):List V:=xs.take k++y::xs.drop k
theorem Vals.ins(r:Vals xs us)(a:RelV y u)(k:Nat):Vals (insV xs k y) (us.take k++u::us.drop k) :=
 (Vals.take k r).append (.cons a (Vals.drop k r))
theorem Qnt:MtM X "list.insert" (fun x vs H Q=>∃l xs k y,x=.ref l/\vs=[.int k,y]/\H l=some (.lst xs)/\0<=k/\k<=(xs.length:Int)/\xs.length<sizeLine/\Q .non (upd H l (.lst (insV xs k.toNat y)))):=by
 intro d s u H x vs v A Q I i m h
 obtain⟨l,xs,k,y,rfl,rfl,f,C,w,p,q⟩:=h
 cases i
 obtain⟨o,c,rfl,⟨t,rfl⟩,j⟩:=m.two
 obtain⟨z,a,n,r,B,e⟩:=I.lstM f
 have b:¬(!Builtin.List.listFitsIndex k)=true:=by
  have:Builtin.List.listFitsIndex k=true:=by
   unfold Builtin.List.listFitsIndex
   have:(sizeLine:Nat)=16777216:=Dc
   simp only[wV,decide_eq_true_eq]
   constructor<;>lia
  rw[this];simp
 refine Y63 F.slot_list_insert ⟨_,e,rfl⟩ F.entry_list_insert (F.args_list_insert_3 _ _ _) (PySem.AutoListH.list_insert_list_int_val_1 l a.toArray n k t c b (by rw[kX];lia)) ⟨e,?_⟩
 exists .non,_,I.lset (its':=a.take k.toNat++c::a.drop k.toNat) f e ?_ (Vals.ins r j k.toNat) ?_,rfl,q
 .have g:(if k<0 then(k+((a.toArray.size:Nat):Int)).toNat else min k.toNat a.toArray.size)=k.toNat:=by
   rw[Y20 Om,kX];lia
  simp only[g]
  apply Array.toList_inj.mp
  simp
  rw[zW (by simp)]
 .unfold insV
  rw[jZ,yQ,zZ,jXb]
  lia
theorem Qsb{p:Pos}(m:X.mg "range"=none)(j:PA X [e] ta)(i:qb (Gl X "range"))(k:qb (starEach [e] X.env=[(false,eval e X.env)])) :
  PE X (.Call (.Name "range" p) [e] [] pos) (fun σ H Q=>ta σ H fun vs H1=>∃n:Int,vs=[.int n]/\∀r,H1 r=none->Q (.ref r) (upd H1 r (.rng 0 n))):=by
 intro a s σ H Q I h
 refine Call_ (Kp I i m boot_range (Y38 (thn (j pos a s σ H _ I h) fun o f c=>?_) k rfl))
 obtain⟨vs,H1,d,g,l⟩:=c
 obtain⟨n,e,q⟩:=l
 subst e
 obtain⟨u,rfl,t,rfl⟩:=g.one
 refine call_range_1 ⟨.ref (qa f),upd H1 (qa f) (.rng 0 n),d.laid (fun b u e=>jW _ e) (jJ _) ⟨_,_,_,yJ _ rfl⟩,rfl,q _ (d.hok.fresh (jJ _))⟩
theorem Xw(a:X.K=K):IxR X (rIxL K):=by subst a;exact Qn
theorem Wd(a:X.K=K):IxR X (rIxT K):=by subst a;exact Yd
theorem Qdv(a:X.K=K):CallR X (.builtin "len") (fun xs H Q=>∃p ys,xs=[.ref p]/\(SqL K H p ys\/SqT K H p ys)/\Q (.int ys.length) H):=by subst a;exact Qu
theorem Vt(a:X.K=K):CallR X (.type "list") (fun xs H Q=>∃p ys,xs=[.ref p]/\(SqL K H p ys\/SqT K H p ys)/\∀l,H l=none->Q (.ref l) (upd H l (.lst ys))):=by subst a;exact Qfj
theorem Zs(a:X.K=K):CallR X (.type "tuple") (fun xs H Q=>∃p ys,xs=[.ref p]/\((SqL K H p ys/\∀l,H l=none->Q (.ref l) (upd H l (.tup ys)))\/(SqT K H p ys/\Q (.ref p) H))):=by subst a;exact Vp
theorem Qll(a:X.K=K):OpR X (compareOp .In) (rIn K false):=by subst a;exact Vo
theorem Qdw(a:X.K=K):OpR X (compareOp .NotIn) (rIn K true):=by subst a;exact Wu
theorem pe_bmK{o:Expr}{to:TE}{t:TA}{name:Str}{apos:Pos}{T id:String}{r:V->List V->Hp->VK->Prop}(j:X.K=K)(pa:PlainAttrs T)(d:Slot T name id)(f:typeOf (.builtin id)=pure (.type "method_descriptor"))(k:MtR X id r)(h:PE X o to)(g:PA X (e::es) t)
  (b:qb (attributeBase o name X.env (eval o X.env)=eval o X.env))
  (c:qb (((backTo cpos (starEach (e::es) X.env)).all (fun x=>!x.1)&&(backToKw cpos (keywordEach [] X.env)).all (fun x=>x.1.isSome)&&decide ((e::es).length+([]:List Keyword).length+(if ([]:List Keyword).isEmpty then 0 else 1)<30))=true))
  (a:qb ((apos.endLine == cpos.line)=true)) (i:qb (starEach (e::es) X.env=(false,eval e X.env)::starEach es X.env)) (hplain:qb ((backTo cpos (starEach es X.env)).any (·.1)=false)) :
  PE X (.Call (.Attribute o name apos) (e::es) [] cpos) (tBM K T r to t):=by subst j;exact Yt pa d f k h g b c a i hplain
end L2
namespace Nb
open PySem L2
structure Mg(mg:Z9):Prop where
 len:mg "len"=none
 min:mg "min"=none
 max:mg "max"=none
 sum:mg "sum"=none
 all:mg "all"=none
 any:mg "any"=none
 abs:mg "abs"=none
 isinstance:mg "isinstance"=none
 sorted:mg "sorted"=none
 range_:mg "range"=none
 zip_:mg "zip"=none
 tuple_:mg "tuple"=none
 list_:mg "list"=none
 int_:mg "int"=none
 bool_:mg "bool"=none
 dict_:mg "dict"=none
 enumerate_:mg "enumerate"=none
 reversed_:mg "reversed"=none
 ValueError_:mg "ValueError"=none
 set_:mg "set"=none
 str_:mg "str"=none
theorem atNs{ns:List Int}{k:Int}(c:0<=k)(h:k<(((ns.map V.int).length:Nat):Int)):∃v:Int,atI (ns.map V.int) k=some (.int v):=by
 have a:k.toNat<ns.length:=by rw[jX]at h;lia
 have b:k=((k.toNat:Nat):Int):=Om
 have q:atI (ns.map V.int) ((k.toNat:Nat):Int)=some (.int ns[k.toNat]):=Qat (by rw[yZ,gE a]<;>rfl)
 rw[<-b]at q
 exists _,q
inductive Qnu(vs:List V)(H:Hp)(Q:VK)(E:XK):Prop|mk(z:Int)(_:vs=[.int z])(_:Q (.bl true) H):Qnu vs H Q E
inductive Qnv(K:Fg)(vs:List V)(H:Hp)(Q:VK)(E:XK):Prop|mk(a:Addr)(ns:List Int)(k:Int)(_:vs=[.ref a,.int k])(_:SqL K H a (ns.map V.int))(_:0<=k)(_:∀z:Int,Q (.int z) H):Qnv K vs H Q E
inductive Kb(K:Fg)(vs:List V)(H:Hp)(Q:VK)(E:XK):Prop|mk(a:Addr)(ns:List Int)(k:Int)(_:vs=[.ref a,.int k])(_:SqL K H a (ns.map V.int))(_:0<=k)(_:k<=1000000)(_:∀z:Int,0<=z->z<2147483629->Q (.int z) H):Kb K vs H Q E
theorem mulA(c k:Int)(d:0<=k)(b:k<=1000000)(y:Int):CMul (c % (10:Int) ^ (18:Int).toNat+48271*(k+1)) y:=by
 have e:(10:Int) ^ (18:Int).toNat=1000000000000000000:=Dk
 rw[e]
 have a:=jQc c (show(1000000000000000000:Int)≠0 by decide)
 have f:=wQ c (show(0:Int)<1000000000000000000 by decide)
 exact .inl ⟨Om,Om⟩
theorem mulB(x k:Int)(b:0<=k)(a:k<=1000000)(y:Int):CMul (x % 2147483629+69621*k) y:=.inl ⟨Om,Om⟩
theorem mulC(c y:Int)(b:-(2 ^ 64)<c)(a:c<2 ^ 64):CMul c y:=.inl ⟨b,a⟩
theorem Zn{D:Addr}(b:H D=some (.lst ys))(h:SqT K H a xs):SqT K (upd H D (.lst zs)) a xs:=by
 rcases h with(h | ⟨o,h⟩) | h
 .exact .inl (.inl (by rw[Qj (Ym h b (by intro z;cases z))];exact h))
 .exact .inl (.inr ⟨o,by rw[Qj (Ym h b (by intro z;cases z))];exact h⟩)
 .exact .inr h
theorem at0{x:V}:atI [x,y] 0=some x:=by rfl
theorem at1{x:V}:atI [x,y] 1=some y:=by rfl
theorem Jn{α:Type}{l:List α}{x:α}(h:l[i]?=some x):l.take (i+1)=l.take i++[x]:=by rw[List.take_succ,h];rfl
theorem Jy{α:Type}{xs:List α}{k:Nat}{x:α}(h:xs[k]?=some x):atI xs (k:Int)=some x:=Qat h
inductive Qsc(K:Fg)(vs:List V)(H:Hp)(Q:VK)(E:XK):Prop|mk(a:Addr)(ns:List Int)(_:vs=[.ref a])(_:SqL K H a (ns.map V.int))(_:ns.length<=63)(_:∀H',Q (.bl true) H'):Qsc K vs H Q E
end Nb
namespace L2
open PySem PySem.Spec PyProof.Rows
section
variable{κ:Type}[DecidableEq κ]
def valV(kvs:List (κ×V))(k:κ):Option V:=(kvs.find? fun kv=>decide (kv.1=k)).map (·.2)
def putK(kvs:List (κ×V))(k:κ)(v:V):List (κ×V) :=
 if (kvs.any fun kv=>decide (kv.1=k))=true then kvs.map (fun kv=>if kv.1=k then(kv.1,v)else kv)else kvs++[(k,v)]
theorem Yy{p:κ×V}{r:List (κ×V)}{k:κ}(e:p.1=k):valV (p::r) k=some p.2:=by simp[valV,kQc,e]
theorem Yz{p:κ×V}{r:List (κ×V)}{k:κ}(e:¬p.1=k):valV (p::r) k=valV r k:=by simp[valV,kQc,e]
theorem Kk(k:κ):∀kvs:List (κ×V),(kvs.any fun kv=>decide (kv.1=k))=(valV kvs k).isSome
 |[]=>rfl
 |p::r=>by
  rw[kZf]
  by_cases e:p.1=k
  .simp only[Yy e,yX e,Bool.true_or,Option.isSome_some]
  .rw[Yz e,xK e,Bool.false_or];exact Kk k r
theorem Qjg(k j:κ)(y:V):∀kvs:List (κ×V),valV (kvs.map fun kv=>if kv.1=k then(kv.1,y)else kv) j=(valV kvs j).map fun x=>if j=k then y else x
 |[]=>rfl
 |p::r=>by
  have a:=Qjg k j y r
  rw[zX]
  by_cases h:p.1=k
  .rw[Y22 h]
   by_cases e:p.1=j
   .rw[Yy (p:=(p.1,y)) e,Yy e,kXf,Y22 (e.symm.trans h)]
   .rw[Yz (p:=(p.1,y)) e,Yz e,a]
  .rw[Y20 h]
   by_cases e:p.1=j
   .rw[Yy (p:=p) e,Yy e,kXf,Y20 (fun z=>h (e.trans z))]
   .rw[Yz (p:=p) e,Yz e,a]
theorem Qfq(k j:κ)(y:V):∀kvs:List (κ×V),valV kvs k=none->valV (kvs++[(k,y)]) j=if j=k then some y else valV kvs j
 |[],_=>by
  by_cases e:k=j
  .rw[Y22 e.symm];exact Yy (p:=(k,y)) e
  .rw[Y20 (fun z=>e z.symm)];exact Yz (p:=(k,y)) e
 |p::r,hn=>by
  rw[List.cons_append]
  have a:¬p.1=k:=fun z=>by rw[Yy z]at hn;cases hn
  rw[Yz a]at hn
  have b:=Qfq k j y r hn
  by_cases e:p.1=j
  .rw[Yy e,Yy e,Y20 (fun z=>a (e.trans z))]
  .rw[Yz e,Yz e,b]
theorem Kl(kvs:List (κ×V))(k j:κ)(y:V):valV (putK kvs k y) j=if j=k then some y else valV kvs j:=by
 unfold putK
 by_cases a:(kvs.any fun c=>decide (c.1=k))=true
 .rw[Y22 a,Qjg]
  rw[Kk]at a
  by_cases e:j=k
  .obtain⟨x,b⟩:=kXb.mp a
   rw[Y22 e,e,b,kXf,Y22 rfl]
  .rw[Y20 e]
   cases valV kvs j with
   |none=>rfl
   |some x=>rw[kXf,Y20 e]
 .rw[Y20 a]
  refine Qfq k j y kvs ?_
  rw[Kk]at a
  cases q:valV kvs k with
  |none=>rfl
  |some x=>rw[q]at a;exact(a rfl).elim
theorem Zo(kvs:List (κ×V))(k:κ)(v:V):(putK kvs k v).length<=kvs.length+1:=by
 unfold putK
 split
 .rw[jX];lia
 .rw[jZ,yQ,kJb];lia
theorem Qjh{kvs:List (κ×V)}{k:κ}(v:V)(h:valV kvs k=none):putK kvs k v=kvs++[(k,v)]:=by
 unfold putK
 rw[Kk,h]
 exact Y20 Dc
theorem RelO.isSome_eq{o:Option V}{u:Option Value}(r:RelO o u):o.isSome=u.isSome:=by
 cases o with
 |none=>cases u with
  |none=>rfl
  |some _=>exact(show False from r).elim
 |some _=>cases u with
  |none=>exact(show False from r).elim
  |some _=>rfl
theorem RelO.getD{o:Option V}{u:Option Value}{d:V}{d':Value}(r:RelO o u)(a:RelV d d'):RelV (o.getD d) (u.getD d'):=by
 cases o with
 |none=>cases u with
  |none=>exact a
  |some _=>exact(show False from r).elim
 |some _=>cases u with
  |none=>exact(show False from r).elim
  |some _=>exact r
theorem KV.val{kvs:List (κ×V)}{vs:List (κ×Value)}(r:KV kvs vs)(k:κ):RelO (valV kvs k) (valueAt vs k):=by
 unfold KV at r
 induction r with
 |nil=>exact True.intro
 |@cons p q ps qs h t ih=>
  obtain⟨c,d⟩:=h
  by_cases e:p.1=k
  .have a:q.1=k:=c.symm.trans e
   have b:valueAt (q::qs) k=some q.2:=by simp[valueAt,kQc,a]
   rw[Yy e,b];exact d
  .have a:¬q.1=k:=fun z=>e (c.trans z)
   have b:valueAt (q::qs) k=valueAt qs k:=by simp[valueAt,kQc,a]
   rw[Yz e,b];exact ih
theorem KV.any{kvs:List (κ×V)}{vs:List (κ×Value)}(r:KV kvs vs)(k:κ):(kvs.any fun kv=>decide (kv.1=k))=vs.any fun kv=>decide (kv.1=k):=by
 unfold KV at r
 induction r with
 |nil=>rfl
 |cons h t ih=>rw[kZf,kZf,ih,h.1]
theorem KV.repl{kvs:List (κ×V)}{vs:List (κ×Value)}(r:KV kvs vs)(k:κ)(c:RelV y u) :
  KV (kvs.map fun kv=>if kv.1=k then(kv.1,y)else kv) (vs.map fun kv=>if kv.1=k then(kv.1,u)else kv):=by
 unfold KV at r⊢
 induction r with
 |nil=>exact .nil
 |@cons p q ps qs h t ih=>
  rw[zX,zX]
  refine .cons ?_ ih
  obtain⟨a,b⟩:=h
  by_cases e:p.1=k
  .rw[Y22 e,Y22 (a.symm.trans e)];exists a,c
  .rw[Y20 e,Y20 (fun z=>e (a.trans z))];exists a,b
theorem KV.put{kvs:List (κ×V)}{vs:List (κ×Value)}(r:KV kvs vs)(k:κ)(a:RelV y u):KV (putK kvs k y) (stored vs k u):=by
 unfold putK stored
 rw[r.any k]
 by_cases e:(vs.any fun b=>decide (b.1=k))=true
 .rw[Y22 e,Y22 e];exact r.repl k a
 .rw[Y20 e,Y20 e];exact Paired.snoc r ⟨rfl,a⟩
theorem KV.length{kvs:List (κ×V)}{vs:List (κ×Value)}(r:KV kvs vs):kvs.length=vs.length:=Paired.length r
end
theorem Qhn{w:World}{k:Key}(r:RelV (kV k) u):(Xm P w).is k u=true:=by
 cases k with
 |inl i=>obtain⟨t,e⟩:=(show ∃t,u=Value.int i t from r);subst e;exact Qhe P w i t
 |inr x=>obtain⟨t,e⟩:=(show ∃t,u=Value.str x t from r);subst e;exact Qhf P w x t
theorem Qfr{P:Program}{w:World}:∀{ks:List Key} {us:List Value},Vals (ks.map kV) us->ItemsAre (Xm P w) ks us
 |[],_,r=>by rw[yQf]at r;cases r;exact .nil
 |k::ks,_,r=>by
  rw[zX]at r
  cases r with
  |cons h t=>exact .cons (Qhn h) (Qfr t)
abbrev KT(H:Hp):List (List Key×V)->List (List Key×Addr×Value)->Prop:=Paired fun p q=>p.1=q.1/\H q.2.1=some (.tup (p.1.map kV))/\RelV p.2 q.2.2
theorem KT.val{xs:List (List Key×Addr×Value)}(r:KT H kvs xs)(k:List Key):RelO (valV kvs k) ((atKey xs k).map (·.2)):=by
 induction r with
 |nil=>exact True.intro
 |@cons p q ps qs h t ih=>
  obtain⟨c,_,d⟩:=h
  by_cases e:p.1=k
  .have a:q.1=k:=c.symm.trans e
   have b:atKey (q::qs) k=some q.2:=by simp[atKey,kQc,a]
   rw[Yy e,b];exact d
  .have a:¬q.1=k:=fun z=>e (c.trans z)
   have b:atKey (q::qs) k=atKey qs k:=by simp[atKey,kQc,a]
   rw[Yz e,b];exact ih
theorem KT.repl{xs:List (List Key×Addr×Value)}(r:KT H kvs xs)(k:List Key)(d:RelV y u) :
  KT H (kvs.map fun kv=>if kv.1=k then(kv.1,y)else kv) (xs.map (putAt k u)):=by
 induction r with
 |nil=>exact .nil
 |@cons p q ps qs h t ih=>
  rw[zX,zX]
  refine .cons ?_ ih
  obtain⟨a,b,c⟩:=h
  unfold putAt
  by_cases e:p.1=k
  .rw[Y22 e,Y22 (a.symm.trans e)];exists a,b,d
  .rw[Y20 e,Y20 (fun z=>e (a.trans z))];exists a,b,c
theorem KT.put{xs:List (List Key×Addr×Value)}(r:KT H kvs xs)(k:List Key)(c:H b=some (.tup (k.map kV)))(a:RelV y u) :
  KT H (putK kvs k y) (storedH xs k b u):=by
 have e:(kvs.any fun d=>decide (d.1=k))=(atKey xs k).isSome:=by
  rw[Kk,(r.val k).isSome_eq,Option.isSome_map]
 unfold putK storedH
 rw[e]
 by_cases q:(atKey xs k).isSome=true
 .rw[Y22 q,Y22 q];exact r.repl k a
 .rw[Y20 q,Y20 q];exact Paired.snoc r ⟨rfl,c,a⟩
theorem KT.keeps{xs:List (List Key×Addr×Value)}(r:KT H kvs xs)(a:∀b ys,H b=some (.tup ys)->H' b=some (.tup ys)):KT H' kvs xs :=
 Paired.mapP r fun _ _ z=>⟨z.1,a _ _ z.2.1,z.2.2⟩
section
variable{w:World}{h:Heap}
theorem rd_of{u:HO}(ok:HOk P w H h)(e:Rd H a u):ObjOk P w H h a u:=e.ok ok
theorem Qho{kvs:List (Key×V)}(ok:HOk P w H h)(e:Rd H a (.dK kvs)):kvs.length<=sizeLine/\(a == sysModules)=false/\∃vs,KV kvs vs/\h.DictOf (Xm P w) a vs :=
 show ObjOk P w H h a (.dK kvs)from rd_of ok e
theorem Qfs{kvs:List (Key×V)}(ok:HOk P w H h)(e:H a=some (.dK kvs)):kvs.length<=sizeLine/\(a == sysModules)=false/\∃vs,KV kvs vs/\h.DictOf (Xm P w) a vs:=Qho ok (.inl e)
theorem Qba(ok:HOk P w H h)(e:H a=some (.tup (ks.map kV))):(tupleKind (Xm P w)).is h ks a:=by
 obtain⟨_,b,r,o,f,c,n,d⟩:=(show ObjOk P w H h a (.tup (ks.map kV))from ok a _ e)
 exists o,b.toArray,n,f,c,d,by simpa using Qfr r
theorem Qhp(ok:HOk P w H h)(e:Rd H a (.dT kvs)):kvs.length<=sizeLine/\(a == sysModules)=false /\
  ∃xs,KT H kvs xs/\h.DictOfH (tupleKind (Xm P w)) a xs:=by
 obtain⟨z,y,xs,r,o,i,d,g,b,f,c,j⟩:=(show ObjOk P w H h a (.dT kvs)from rd_of ok e)
 exists z,y,xs,r,o,i,d,g,b,f,c,fun x hx=>?_,j
 have all:∀{l:List (List Key×V)} {m:List (List Key×Addr×Value)},KT H l m->∀x∈m,(tupleKind (Xm P w)).is h x.1 x.2.1:=by
  intro l m q
  induction q with
  |nil=>intro x hx;exact nomatch hx
  |@cons p q ps qs hq t ih=>
   intro x hx
   rcases kK.mp hx with e | hx
   .subst e
    exact Qba ok (by rw[<-hq.1];exact hq.2.1)
   .exact ih x hx
 exact all r x hx
theorem Qwi(ok:HOk P w H h)(e:H a=some (.dT kvs)):kvs.length<=sizeLine/\(a == sysModules)=false /\
  ∃xs,KT H kvs xs/\h.DictOfH (tupleKind (Xm P w)) a xs:=Qhp ok (.inl e)
end
def DGet(H:Hp)(a:Addr)(y:V)(r:Option V):Prop :=
 (∃kvs k,Rd H a (.dK kvs)/\y=kV k/\r=valV kvs k)\/∃kvs k b,Rd H a (.dT kvs)/\y=.ref b/\H b=some (.tup (k.map kV))/\r=valV kvs k
def DPut(H:Hp)(a:Addr)(y v:V)(H':Hp):Prop :=
 (∃kvs k,H a=some (.dK kvs)/\y=kV k/\kvs.length<sizeLine/\H'=upd H a (.dK (putK kvs k v))) \/
 ∃kvs k b,H a=some (.dT kvs)/\y=.ref b/\H b=some (.tup (k.map kV))/\kvs.length<sizeLine/\H'=upd H a (.dT (putK kvs k v))
theorem DGet.k{kvs:List (Key×V)}{k:Key}(e:H a=some (.dK kvs)):DGet H a (kV k) (valV kvs k):=.inl ⟨kvs,k,.inl e,rfl,rfl⟩
theorem DGet.t{k:List Key}(e:H a=some (.dT kvs))(c:H b=some (.tup (k.map kV))):DGet H a (.ref b) (valV kvs k):=.inr ⟨kvs,k,b,.inl e,rfl,c,rfl⟩
theorem DPut.k{kvs:List (Key×V)}{k:Key}{v:V}(e:H a=some (.dK kvs))(b:kvs.length<sizeLine):DPut H a (kV k) v (upd H a (.dK (putK kvs k v))):=.inl ⟨kvs,k,e,rfl,b,rfl⟩
section
variable{v:V}{r:Value}{o:Option V}
theorem Inv.big(I:Inv X pins σ H s):sysModules<(qa s):=by
 have h:mainGlobals<(qa s):=(I.mod.glob.keeps I.bk).lt
 exact Nat.lt_trans Dc h
theorem Qnw{Q:VP}(C:A.units+1<cLine)(I:Inv X pins σ H s)(g:DGet H a y (some v))(q:RelV y u)(h:∀w' s',Inv X pins σ H s'->RelV v w'->Q w' s') :
  qd X A (getItem (.ref a) u) Q E s:=by
 rcases g with⟨n,k,e,i,l⟩ | ⟨n,k,b,e,i,D,l⟩
 .subst i
  obtain⟨z,x,t,d,j⟩:=Qho I.hok e
  obtain⟨w',f,c⟩:=RelO.some_of (v:=v) (o:=valueAt t k) (by rw[l];exact d.val k)
  exact wpAny_getItem_of (Qhn q) j.mapOf f (h w' _ (I.tok _) c)
 .subst i
  cases(show u=Value.ref b from q)
  obtain⟨z,x,r,d,j⟩:=Qhp I.hok e
  obtain⟨w',f,c⟩:=RelO.some_of (v:=v) (o:=(atKey r k).map (·.2)) (by rw[l];exact d.val k)
  obtain⟨p,B,m⟩:=jZe.mp f
  refine wpAny_getItem_heap (Y56 C) (Qba I.hok D) j B ?_
  rw[m]
  exact h w' _ (I.tok _) c
theorem d_in{Q:VP}(n:A.units+1<cLine)(I:Inv X pins σ H s)(g:DGet H a y o)(m:RelV y u)(h:∀s',Inv X pins σ H s'->Q (.bool o.isSome) s') :
  qd X A (compareOp .In u (.ref a)) Q E s:=by
 rcases g with⟨j,k,e,d,l⟩ | ⟨j,k,b,e,d,p,l⟩
 .subst d
  obtain⟨z,f,t,c,i⟩:=Qho I.hok e
  refine wpAny_in_of (Qhn m) f i.mapOf ?_
  rw[<-(c.val k).isSome_eq,<-l]
  exact h _ (I.tok _)
 .subst d
  cases(show u=Value.ref b from m)
  obtain⟨z,f,r,c,i⟩:=Qhp I.hok e
  refine wpAny_in_heap (Y56 n) (Qba I.hok p) f i ?_
  have q:=(c.val k).isSome_eq
  rw[Option.isSome_map]at q
  rw[<-q,<-l]
  exact h _ (I.tok _)
theorem We{ob:HO}(I:Inv X pins σ H s)(g:Mut (H a))(f:Heap.SameBut a s.heap h')(he:∃q,h'.get? a=some q)(c:ObjOk X.prog X.w (upd H a ob) h' a ob) :
  Inv X pins σ (upd H a ob) { s with heap:=h',toks:=t' } :=
 I.write (x:=a) (e:=a) g (.inl rfl) (fun b q d z=>(f.2 b d).trans z) he c
theorem Quv{w:World}{kvs:List (Key×V)}{vs:List (Key×Value)}(z:kvs.length<=sizeLine)(c:(a == sysModules)=false)(b:KV kvs vs)(d:h'.DictOf (Xm P w) a vs) :
  ObjOk P w H' h' a (.dK kvs):=⟨z,c,vs,b,d⟩
theorem Qnx{Q:Unit->Shared->Prop}(M:A.units+1<cLine)(I:Inv X pins σ H s)(g:DPut H a y v H')(C:RelV y u)(J:RelV v r)(h:∀s',Inv X pins σ H' s'->Q () s') :
  qd X A (setItem (.ref a) u r) Q E s:=by
 rcases g with⟨f,k,e,m,l,B⟩ | ⟨f,k,b,e,m,F,l,B⟩
 .subst m B
  obtain⟨z,n,L,d,o⟩:=Qfs I.hok e
  have x:L.length<=sizeLine:=by rw[<-d.length];exact z
  have t:(putK f k v).length<=sizeLine:=by have:=Zo f k v;lia
  refine wpAny_setItem_pairs (hsz:=x) (Qhn C) o fun D i p=>h _ ?_
  have R:∃q,D.get? a=some q:=let ⟨q,_,_,j,_⟩:=i;⟨q,j⟩
  exact We I (by rw[e];exact True.intro) p R (Quv t n (d.put k J) i)
 .subst m B
  cases(show u=Value.ref b from C)
  obtain⟨z,n,K,d,o⟩:=Qwi I.hok e
  have x:K.length<=sizeLine:=by rw[<-Paired.length d];exact z
  have t:(putK f k v).length<=sizeLine:=by have:=Zo f k v;lia
  refine wpAny_setItem_heap (hsz:=x) (Y56 M) (Qba I.hok F) o fun D i p=>h _ ?_
  obtain⟨q,U,S,j,O,T,P,_,N⟩:=i
  refine We I (by rw[e];exact True.intro) p ⟨q,j⟩ ⟨t,n,_,(d.put k F J).keeps fun c V G=>?_,q,U,S,j,O,T,P,N⟩
  rw[Qj (Ym G e (fun z=>nomatch z))]
  exact G
end
def NoSl(i:Expr):Prop:=∀ov iv,subscripted i false ov iv=operate [ov,iv] (getItem ov iv)
theorem Qwj{w:World}{env:Env}{value slice:Expr}{T id:String}{Q:VP}
  (g:typeLookup (.type T) "__getitem__"=pure (some (.builtin id))) (f:NoSl slice)
  (h:qe prog w A (eval value env) (fun o s₁=>qe prog w A (eval slice env) (fun i s₂=>s₂.TypeIs o T/\qe prog w A (getItem o i) Q E s₂) E s₁) E s) :
  qe prog w A (eval (.Subscript value slice pos) env) Q E s:=by
 refine Subscript_ (Y29 h (fun o s₁ d=>Y29 d (fun i s₂ a=>?_) fun _ _ x=>x) fun _ _ x=>x)
 obtain⟨e,a⟩:=a
 unfold subscriptTail
 refine jQ ?_
 rw[getitemInPython_of_ne e.not_modules]
 refine jQ (Y64 e g ?_)
 have fin:qe prog w A (subscripted slice false o i) (fun r b=>qe prog w A (letTemporaryGo value o r >>= fun _=>pure r) Q E b) E s₂:=by
  rw[f o i]
  exact wpAny_operating (Y29 a (fun r b c=>jQ (wpAny_letTemporaryGo (kQ c))) fun _ _ x=>x)
 first
  |exact kQ (jQ fin)
  |exact jQ (kQ (jQ fin))
  |exact jQ fin
theorem Qhq{o:Option V}(I:Inv X pins σ H s)(g:DGet H a y o):s.TypeIs (.ref a) "dict":=by
 rcases g with⟨c,k,e,_,_⟩ | ⟨c,k,b,e,_,_,_⟩
 .obtain⟨_,_,h,_,d⟩:=Qho I.hok e
  exact d.typeIs
 .obtain⟨_,_,f,_,d⟩:=Qhp I.hok e
  exact d.typeIs
def tDGet(td ty:TE):TE:=fun σ H Q=>td σ H fun x H1=>ty σ H1 fun y H2=>∃a v,x=.ref a/\DGet H2 a y (some v)/\Q v H2
def tDIn(ty td:TE):TE:=fun σ H Q=>ty σ H fun y H1=>td σ H1 fun x H2=>∃a o,x=.ref a/\DGet H2 a y o/\Q (.bl o.isSome) H2
def sDPut(td ty tv:TE):TS:=fun D σ H=>tv σ H fun v H1=>td σ H1 fun x H2=>ty σ H2 fun y H3=>∃a H4,x=.ref a/\DPut H3 a y v H4/\D.nx σ H4
section
variable{o i value:Expr}{td ty tv:TE}
theorem Va(n:X.A.units+1<cLine)(l:PE X o td)(r:PE X i ty)(p:NoSl i):PE X (.Subscript o i pos) (tDGet td ty):=by
 intro b s f H Q I h
 refine Qwj PySem.F.slot_dict_getitem.lookup p (thn (l b s f H _ I h) fun u s1 ⟨x,H1,I1,rx,q1⟩=>thn (r b s1 f H1 _ I1 q1) fun z C d=>?_)
 obtain⟨y,q,e,m,a,v,ex,g,j⟩:=d
 subst ex
 obtain rfl:u=Value.ref a:=rx
 exists Qhq e g,Qnw n e g m fun B t k c=>⟨v,q,k,c,j⟩
theorem pc_din(m:X.A.units+1<cLine)(q:PE X i ty)(l:PE X o td):PC X .In i o (tDIn ty td):=by
 intro b s d H Q I h
 refine thn (q b s d H _ I h) fun iv s1 ⟨y,H1,I1,ry,q1⟩=>thn (l b s1 d H1 _ I1 q1) fun u t c=>?_
 obtain⟨x,n,k,j,a,p,ex,g,e⟩:=c
 subst ex
 obtain rfl:u=Value.ref a:=j
 exact d_in m k g ry fun r f=>⟨.bl p.isSome,n,f,rfl,e⟩
theorem Qny(n:X.A.units+1<cLine)(l:PE X o td)(t:PE X i ty)(j:PE X value tv)(p:swapsWith value (some (.Subscript o i pos')) pos.line X.env=pure false) :
  PS X (.Assign [.Subscript o i pos'] value pos) (sDPut td ty tv):=by
 intro b s c H D I h
 refine wpAny_Assign_Subscript (thn (j b s c H _ I h) fun r s1 ⟨v,H1,I1,rv,q1⟩=>thn (l b s1 c H1 _ I1 q1) fun u s2 ⟨x,H2,I2,rx,q2⟩=>thn (t b s2 c H2 _ I2 q2) fun B w d=>?_) p
 obtain⟨y,C,f,m,a,e,ex,g,k⟩:=d
 subst ex
 obtain rfl:u=Value.ref a:=rx
 exact Qnx n f g m rv fun z q=>⟨c,e,q,k⟩
end
theorem Qji{w:World}(h:Heap)(a:sysModules<h.objs.size):ObjOk P w H (h.push { cls:=.type "dict",data:=.dict #[] }) h.objs.size (.dK []) :=
 ⟨wJ _,beq_eq_false_iff_ne.mpr (Ne.symm (xZ a)),[],.nil,Heap.DictOf.new h⟩
theorem Qsd{w:World}(h:Heap)(a:sysModules<h.objs.size):ObjOk P w H (h.push { cls:=.type "dict",data:=.dict #[] }) h.objs.size (.dT []) :=
 ⟨wJ _,beq_eq_false_iff_ne.mpr (Ne.symm (xZ a)),[],.nil,_,#[],0,yJ _ rfl,⟨rfl,rfl,rfl⟩,rfl,rfl,List.nodup_nil⟩
def tDNewK:TE:=fun _ H Q=>∀p,H p=none->Q (.ref p) (upd H p (.dK []))
theorem Qjj:PE X (.Dict [] [] pos) tDNewK:=fun b s c H Q I h=>
 wpAny_Dict_empty ⟨.ref (qa s),_,I.laid (a:=(qa s)) (o:=.dK []) (t':=s.toks) (fun _ _ q=>jW _ q) (jJ _) (Qji s.heap I.big),rfl,h _ (I.hok.fresh (jJ _))⟩
structure M1(X:Cx)(o:Expr)(m:Str)(apos:Pos)(e:Expr)(cpos:Pos):Prop where
 base:attributeBase o m X.env (eval o X.env)=eval o X.env
 few:((backTo cpos (starEach [e] X.env)).all (fun x=>!x.1)&&(backToKw cpos (keywordEach [] X.env)).all (fun x=>x.1.isSome)
  && decide (([e]:List Expr).length+([]:List Keyword).length+(if ([]:List Keyword).isEmpty then 0 else 1)<30))=true
 line:(apos.endLine == cpos.line)=true
 trees:backTo cpos (starEach [e] X.env)=[(false,eval e X.env)]
structure M2(X:Cx)(o:Expr)(m:Str)(apos:Pos)(e f:Expr)(cpos:Pos):Prop where
 base:attributeBase o m X.env (eval o X.env)=eval o X.env
 few:((backTo cpos (starEach [e,f] X.env)).all (fun x=>!x.1)&&(backToKw cpos (keywordEach [] X.env)).all (fun x=>x.1.isSome)
  && decide (([e,f]:List Expr).length+([]:List Keyword).length+(if ([]:List Keyword).isEmpty then 0 else 1)<30))=true
 line:(apos.endLine == cpos.line)=true
 trees:backTo cpos (starEach [e,f] X.env)=[(false,eval e X.env),(false,eval f X.env)]
def IsD(H:Hp)(a:Addr):Prop:=(∃kvs,Rd H a (.dK kvs))\/∃kvs,Rd H a (.dT kvs)
theorem Qnz(I:Inv X pins σ H s)(d:IsD H a) :
  s.TypeIs (.ref a) "dict"/\(∀b,Value.ref a=.ref b->∃ob,s.heap.get? b=some ob/\ob.dict=none)/\(a == sysModules)=false:=by
 rcases d with⟨i,e⟩ | ⟨i,e⟩
 .obtain⟨_,g,k,_,c⟩:=Qho I.hok e
  exists c.typeIs,fun b q=>?_,g
  cases q
  obtain⟨ob,_,_,h,f,_⟩:=c
  exists ob,h,f.2.1
 .obtain⟨_,g,j,_,c⟩:=Qhp I.hok e
  exists c.typeIs,fun b q=>?_,g
  cases q
  obtain⟨ob,_,_,h,f,_⟩:=c
  exists ob,h,f.2.1
section
variable{d:V}{r:Value}{o:Option V}
theorem d_get1{Q:VP}(p:A.units+1<cLine)(I:Inv X pins σ H s)(g:DGet H a y o)(m:RelV y u)(h:∀w' s',Inv X pins σ H s'->RelV (o.getD .non) w'->Q w' s') :
  qd X A (call (.builtin "dict.get") [.ref a,u]) Q E s:=by
 rcases g with⟨j,k,e,f,l⟩ | ⟨j,k,b,e,f,q,l⟩
 .subst f
  obtain⟨z,i,r,c,d⟩:=Qho I.hok e
  refine Y50 PySem.F.slot_dict_get d.typeIs PySem.F.entry_dict_get (PySem.F.args_dict_get_2 _ _) (meets_dict_get (Xm X.prog X.w) a (Qhn m) i) ⟨_,d.mapOf,h _ _ (I.tok _) ?_⟩
  rw[l]
  exact(c.val k).getD rfl
 .subst f
  cases(show u=Value.ref b from m)
  obtain⟨z,i,n,c,d⟩:=Qhp I.hok e
  refine Y50 PySem.F.slot_dict_get d.typeIs PySem.F.entry_dict_get (PySem.F.args_dict_get_2 _ _) (meetsH_dict_get (tupleKind (Xm X.prog X.w)) a b i) ⟨Y56 p,k,n,Qba I.hok q,d,h _ _ (I.tok _) ?_⟩
  rw[l]
  exact(c.val k).getD rfl
theorem d_get2{Q:VP}(t:A.units+1<cLine)(I:Inv X pins σ H s)(g:DGet H a y o)(n:RelV y u)(p:RelV d r)(h:∀w' s',Inv X pins σ H s'->RelV (o.getD d) w'->Q w' s') :
  qd X A (call (.builtin "dict.get") [.ref a,u,r]) Q E s:=by
 rcases g with⟨m,k,e,i,l⟩ | ⟨m,k,b,e,i,v,l⟩
 .subst i
  obtain⟨z,j,x,c,f⟩:=Qho I.hok e
  refine Y50 PySem.F.slot_dict_get f.typeIs PySem.F.entry_dict_get (PySem.F.args_dict_get_3 _ _ _) (meets_dict_get_default (Xm X.prog X.w) a (Qhn n) j r) ⟨_,f.mapOf,h _ _ (I.tok _) ?_⟩
  rw[l]
  exact(c.val k).getD p
 .subst i
  cases(show u=Value.ref b from n)
  obtain⟨z,j,q,c,f⟩:=Qhp I.hok e
  refine Y50 PySem.F.slot_dict_get f.typeIs PySem.F.entry_dict_get (PySem.F.args_dict_get_3 _ _ _) (meetsH_dict_get_default (tupleKind (Xm X.prog X.w)) a b j r) ⟨Y56 t,k,q,Qba I.hok v,f,h _ _ (I.tok _) ?_⟩
  rw[l]
  exact(c.val k).getD p
end
def tDGet1(td ty:TE):TE:=fun σ H Q=>td σ H fun x H1=>∃a,x=.ref a/\IsD H1 a/\ty σ H1 fun y H2=>∃o,DGet H2 a y o/\Q (o.getD .non) H2
def tDGet2(td ty tx:TE):TE:=fun σ H Q=>td σ H fun x H1=>∃a,x=.ref a/\IsD H1 a/\ty σ H1 fun y H2=>tx σ H2 fun z H3=>∃o,DGet H3 a y o/\Q (o.getD z) H3
section
variable{o f:Expr}{apos:Pos}{td ty tx:TE}
theorem Qjk(q:X.A.units+1<cLine)(p:PE X o td)(he:PE X e ty)(m:M1 X o "get" apos e cpos):PE X (.Call (.Attribute o "get" apos) [e] [] cpos) (tDGet1 td ty):=by
 intro b s j H Q I h
 refine wpAny_Call_method m.base m.few m.line PySem.F.plainAttrs_dict PySem.F.slot_dict_get PySem.F.type_dict_get (thn (p b s j H _ I h) fun u v f=>?_)
 obtain⟨x,t,i,n,a,ex,d,z⟩:=f
 subst ex
 obtain rfl:u=Value.ref a:=n
 obtain⟨r,k,_⟩:=Qnz i d
 exists r,k,?_
 rw[m.trees]
 refine Y39 rfl (Calls.evalArgs_plain (Y57 (thn (he b v j t _ i z) fun iv s2 ⟨y,H2,I2,ry,ov,g,q2⟩=>Calls.spliced_nil ?_)))
 exact d_get1 q I2 g ry fun C B l c=>⟨_,H2,l,c,q2⟩
theorem Qse(q:X.A.units+1<cLine)(p:PE X o td)(he:PE X e ty)(C:PE X f tx)(m:M2 X o "get" apos e f cpos):PE X (.Call (.Attribute o "get" apos) [e,f] [] cpos) (tDGet2 td ty tx):=by
 intro b s j H Q I h
 refine wpAny_Call_method m.base m.few m.line PySem.F.plainAttrs_dict PySem.F.slot_dict_get PySem.F.type_dict_get (thn (p b s j H _ I h) fun u v i=>?_)
 obtain⟨x,t,k,n,a,ex,d,B⟩:=i
 subst ex
 obtain rfl:u=Value.ref a:=n
 obtain⟨r,l,_⟩:=Qnz k d
 exists r,l,?_
 rw[m.trees]
 refine Y39 rfl (Calls.evalArgs_plain (Y57 (thn (he b v j t _ k B) fun iv s2 ⟨y,H2,I2,ry,q2⟩=>
  Y57 (thn (C b s2 j H2 _ I2 q2) fun fv s3 ⟨z,H3,I3,rz,ov,g,q3⟩=>Calls.spliced_nil ?_))))
 exact d_get2 q I3 g ry rz fun G E D c=>⟨_,H3,D,c,q3⟩
end
end L2
namespace L2
open PySem PySem.Spec PyProof.Rows
section
variable{κ:Type}[DecidableEq κ]
theorem Qwk{kvs:List (κ×V)}{k:κ}{v:V}(h:valV kvs k=some v):k∈kvs.map (·.1):=by
 have q:(kvs.any fun b=>decide (b.1=k))=true:=by
  rw[Kk,h]
  all_goals rfl
 obtain⟨p,a,e⟩:=jXe.mp q
 exact zK.mpr ⟨p,a,kZ e⟩
end
theorem Qft:typeLookup (.type "list") "keys"=pure none:=by rw[typeLookup_type,Y60];kernel_rfl
section
variable{w:World}
theorem Vu{xs:Array Value}{k:Nat}(m:s.heap.get? a=some { cls:=.type "list",dict:=none,data:=.seq xs k,slots:=sl })(q:A.handled=none)
  (h:∀h' tk,(∀b o,s.heap.get? b=some o->h'.get? b=some o)->Q none { s with heap:=h',toks:=tk }):qe prog w A (getAttr? (.ref a) "keys") Q E s:=by
 obtain⟨t,g,d,tk,p⟩:=s
 have n:∀i,(⟨t,g,d,i,p⟩:Shared).TypeIs (.ref a) "list":=fun _=>⟨_,m,rfl⟩
 have H:=sub_AttributeError
 have G:=F.slot_list_getattribute.lookup
 have x:=F.slot_list_getattribute.bind (.ref a)
 have D:=am_list_getattr_none
 have c:(["__module__","__name__","__qualname__","__doc__","__annotations__"]:List Str).contains "keys"=false:=Dk
 unfold getAttr? getAttrBy? getAttrBy
 repeat (any_goals (first | assumption | exact n _ | ((with_reducible show wpAny _ _ (call (Value.builtin "list.__getattribute__") _ _) _ _ _);refine Y63 F.slot_list_getattribute (n _) am_entry_list_getattribute (F.args_list_getattribute_2 _ _) (meets_getattribute_miss_list a xs k sl "keys" _ Qft c Dk) ⟨m,q,fun h' i e j=>?_⟩) | wp_step))
 have f:=j.of
 obtain⟨⟨C,B,y,u⟩,z,v,l,_,_⟩:=f.there
 simp only at l
 subst l
 have r:∀tk2,(⟨h',g,d,tk2,p⟩:Shared).TypeIs (.ref e) "AttributeError":=fun _=>⟨_,v,rfl⟩
 show wpAny _ _ (getattributeRaised _ _ _ _ _ _ _) _ _ _
 unfold getattributeRaised
 repeat (any_goals (first | assumption | exact r _ | wp_step))
 all_goals exact h _ _ f.keeps
end
def Vv:entryFor table "dict.update.loop"=some Builtin.«dict.update.loop»:=entryFor_of_tree (by kernel_rfl)
theorem Zt:plainId "dict.update.loop"=true:=Dk
section
variable{w:World}{e l:Addr}{st:Nat->Heap->Prop}{src:List Value->Heap->Prop}{xs:List Value}{old:Value}
theorem Ks{x:Value}(T:Drw P w it l st src)(N:IsEnum s.heap e it c old)(hI:st i s.heap)(hl:src xs s.heap)(hx:xs[i]?=some x)(p:e≠it)
  (hQ:∀h',IsEnumOut h' e it (c+1) x (qa s)->st (i+1) h'->h'.get? (qa s)=some { cls:=.type "tuple",data:=.seq #[.int c s.toks,x] } ->
   (∀b o,b≠e->b≠it->s.heap.get? b=some o->h'.get? b=some o)->Q (some (.ref (qa s))) { s with heap:=h',toks:=s.toks+1 }):qe P w A (pyNext (.ref e)) Q E s:=by
 have M:s.TypeIs (.ref e) "enumerate":=⟨_,N,rfl⟩
 unfold pyNext
 refine jQ (Y55 (wpAny_callSpecial?_slot (name:=Str.ofString "__next__") M Y36 (Y25 Y36 M Y47 ?_ (Y45 _))))
 obtain⟨m,g,d,a,n⟩:=s
 show wpAny _ _ (field (.ref e) 2 >>= _) _ _ _
 refine jQ (Y23 N rfl (x:=.ref it) rfl ?_)
 refine jQ (T.item _ _ ⟨m,g,d,a,n⟩ i xs x _ hI hl hx fun B L J=>?_)
 replace J:Heap.SameBut it m B:=J
 have r:IsEnum B e it c old:=(J.2 e p).trans N
 show wpAny _ _ (field (.ref e) 3 >>= _) _ _ ⟨B,g,d,a,n⟩
 refine jQ (Y23 r rfl (x:=rawInt c) rfl ?_)
 show wpAny _ _ (field (.ref e) 4 >>= _) _ _ ⟨B,g,d,a,n⟩
 refine jQ (Y23 r rfl (x:=.none) rfl ?_)
 show wpAny _ _ (mkInt c >>= _) _ _ ⟨B,g,d,a,n⟩
 refine jQ (wpAny_mkInt ?_)
 show wpAny _ _ (setField (.ref e) 3 (rawInt (c+1)) >>= _) _ _ ⟨B,g,d,a+1,n⟩
 refine jQ (Y24 r (by simp) fun S u I=>?_)
 replace I:Heap.SameBut e B S:=I
 replace u:IsEnum S e it (c+1) old:=u
 show wpAny _ _ (setField (.ref e) 4 .none >>= _) _ _ ⟨S,g,d,a+1,n⟩
 refine jQ (Y24 u (by simp) fun H j K=>?_)
 replace K:Heap.SameBut e S H:=K
 replace j:IsEnum H e it (c+1) old:=j
 show wpAny _ _ (newTuple [.int c a,x] >>= _) _ _ ⟨H,g,d,a+1,n⟩
 refine jQ (wpAny_newTuple ?_)
 have t:IsEnum (H.push { cls:=.type "tuple",data:=.seq #[.int c a,x] }) e it (c+1) old:=jW _ j
 generalize k:H.push { cls:=.type "tuple",data:=.seq #[.int c a,x] }=g4 at t
 have y:H.objs.size=m.objs.size:=by rw[K.1,I.1,J.1]
 have aa:e<m.objs.size:=zQ N
 have U:g4.get? m.objs.size=some { cls:=.type "tuple",data:=.seq #[.int c a,x] }:=by rw[<-k,<-y];exact yJ _ rfl
 have X:∀b o,b≠e->b≠it->m.get? b=some o->g4.get? b=some o:=fun b o f v C=>by
  rw[<-k];exact jW _ (K.extBut b o f (I.extBut b o f (J.extBut b o v C)))
 have W:st (i+1) g4:=T.keep _ _ _ L fun q z=>by rw[<-k];exact jW _ (K.extBut _ _ p.symm (I.extBut _ _ p.symm z))
 show wpAny _ _ (Builtin.SmallTypes.ownedTupleIsFree (.ref e) >>= _) _ _ ⟨g4,g,d,a+1,n⟩
 rw[y]
 clear k j K u I r J L y
 refine jQ ?_
 unfold Builtin.SmallTypes.ownedTupleIsFree
 refine jQ (Y23 t rfl (x:=.none) rfl (kQ ?_))
 simp only[if_true]
 refine jQ (Y58 (jQ (Y23 t rfl (x:=old) rfl (jQ (Y24 t (by simp) fun R F Z=>?_)))))
 replace Z:Heap.SameBut e g4 R:=Z
 replace F:IsEnum R e it (c+1) x:=F
 show wpAny _ _ (Builtin.SmallTypes.ownedTupleHandOut (.ref e) (.ref m.objs.size) >>= _) _ _ ⟨R,g,d,a+1,n⟩
 refine jQ ?_
 unfold Builtin.SmallTypes.ownedTupleHandOut
 refine jQ (Y24 F (by simp) fun g6 G e6=>?_)
 replace e6:Heap.SameBut e R g6:=e6
 replace G:IsEnumOut g6 e it (c+1) x m.objs.size:=G
 refine Y24 G (by simp) fun O D V=>?_
 replace V:Heap.SameBut e g6 O:=V
 replace D:IsEnumOut O e it (c+1) x m.objs.size:=D
 have Y:∀b o,b≠e->g4.get? b=some o->O.get? b=some o:=fun b o C z=>V.extBut b o C (e6.extBut b o C (Z.extBut b o C z))
 refine jQ (wpAny_letGo (kQ ⟨_,rfl,kQ (hQ O D ?_ ?_ ?_)⟩))
 .exact T.keep _ _ _ W fun q z=>Y _ _ p.symm z
 .exact Y _ _ (kYc aa) U
 .exact fun b o f v C=>Y b o f (X b o f v C)
theorem Qfu(j:A.handled=none)(f:Drw P w it l st src)(d:IsEnum s.heap e it i old)(k:st i s.heap)(n:src xs s.heap)(q:xs[i]?=none)
  (g:∀h',Heap.ExtBut it s.heap h'->Q none { s with heap:=h' }):qe P w A (pyNext (.ref e)) Q E s:=by
 have a:s.TypeIs (.ref e) "enumerate":=⟨_,d,rfl⟩
 unfold pyNext
 refine jQ (Y55 (wpAny_callSpecial?_slot (name:=Str.ofString "__next__") a Y36 (Y25 Y36 a Y47 ?_ (Y45 _))))
 show wpAny _ _ (field (.ref e) 2 >>= _) _ _ _
 refine jQ (Y23 d rfl (x:=.ref it) rfl ?_)
 refine jQ (f.done _ _ s i xs _ j k n q fun h' x r c=>?_)
 obtain⟨o,m,p⟩:=c
 refine jQ (wpAny_isInstance (T:="StopIteration") (b:=true) ⟨o,m,p⟩ isSubtype_stop (kQ (g _ r)))
end
theorem Qlm{n:String}{l:Addr}{p:Heap->Prop}(I:Itr0 n l p) :
  Meets (Builtin.«enumerate.__new__» ⟨[.type "enumerate",.ref l],[]⟩) (fun _ R s=>p s.heap/\R (.ok (.ret (.ref (s.heap.push (Jl n l)).objs.size))) { s with heap:=(s.heap.push (Jl n l)).push { cls:=.type "enumerate",data:=.fields #[.none,.bool false,.ref (qa s),rawInt 0,.none,.none] } }) :=
 .of_wp fun a w A R s h=>by
  obtain⟨f,g,d,k,i⟩:=s
  obtain⟨q,h⟩:=h
  have e:=sub_enumerate
  have b:=fun(A:Around) (E:VP) (Q:VP)=>I.go a w A E ⟨f,g,d,k,i⟩ Q q
  wp_walk
  refine wpAny_stack_any fun j=>kQ ?_
  split
  .rename_i c _ _ _ _ _
   cases(c == Value.type "enumerate")
   .wp_walk using b _ _ _
    exists _,rfl,h
   .wp_walk using b _ _ _
    exists _,rfl,h
  .wp_walk using b _ _ _
   exists _,rfl,h
def Ite(K:Fg)(m:Bool)(a:Addr):It :=
  ⟨fun i H=>∃xs x,Sq K m H a xs/\xs[i]?=some x,
   fun i H v H'=>∃T x,v=.ref T/\H T=none/\H'=upd H T (.tup [.int (i:Nat),x])/\(∀xs,Sq K m H a xs->xs[i]?=some x),
   fun i H=>∃xs,Sq K m H a xs/\xs.length<=i⟩
def eTn(m:Bool)(e it a:Addr)(i:Nat)(h:Heap):Prop:=(∃old,IsEnum h e it i old)/\itSt m it a i h
theorem X0(n:Nat)(h:n<sizeLine:=by decide):n<sizeLine:=h
theorem Z1(n:Nat)(h:n<=sizeLine:=by decide):n<=sizeLine:=h
theorem Qoa{w:World}{m:Bool}{e:Addr}(p:e≠it)(ac:a≠e)(ab:a≠it) :
  Turn P w K (.Tuple es kk tp) (Ite K m a) [e,it] e (eTn m e it a) where
 mem:=by simp
 obj:=fun i h j c d=>by
  obtain⟨⟨f,u⟩,l⟩:=j
  simp only[kK,jXc,or_false]at d
  rcases d with rfl | rfl
  .exact⟨_,u,fun v z=>by cases z⟩
  .exact(Jm (P:=P) (w:=w) m c a).obj i h l
 keep:=fun i h h' j k=>by
  obtain⟨⟨f,u⟩,l⟩:=j
  exists ⟨f,k e (by simp) _ u⟩,(Jm (P:=P) (w:=w) m it a).keep i h h' l (k it (by simp))
 item:=by
  intro X S O M d i g s R H E I r j D
  subst S O M
  obtain⟨xs,x,B,G⟩:=D
  obtain⟨N,C,L,z1⟩:=I.sq B
  obtain⟨v1,e1,J⟩:=C.get G
  obtain⟨⟨f,y⟩,A⟩:=j
  refine Ks (Jm m it a) y A L e1 p fun h' Z Y a3 a4=>⟨_,rfl,?_⟩
  have kk:∀c q,c∉[e,it]->s.heap.get? c=some q->h'.get? c=some q:=fun c q d e=>by
   simp only[kK,jXc,or_false,not_or]at d
   exact a4 c q d.1 d.2 e
  have I1:Inv X g R (upd H (qa s) (.tup [.int (i:Nat),x])) { s with heap:=h' }:=I.tupNew (ch:=[e,it]) (its:=[.int i s.toks,v1]) (jJ _) (.cons ⟨_,rfl⟩ (.cons J .nil)) (Z1 2) a3 r kk (fun c d=>by
   simp only[kK,jXc,or_false]at d
   rcases d with rfl | rfl
   .exact⟨_,Z⟩
   .obtain⟨q,z,_⟩:=(Jm (P:=X.prog) (w:=X.w) m c a).obj _ _ Y;exists q,z)
  refine wpAny_letOwnedTupleGo_enum (s:={ s with heap:=h',toks:=s.toks+1 }) Z fun l g1 g2=>?_
  obtain⟨Q,V,f2,U,F,T⟩:=r e (by simp)
  have n:e<(qa s):=zQ y
  have I2:Inv X g R (upd H (qa s) (.tup [.int (i:Nat),x])) { s with heap:=l,toks:=s.toks+1 }:=I1.turned (h':=l) (t':=s.toks+1) (fun c q d z=>g2.extBut c q d z) (by rw[Qj (xZ n)];exact Q) V U F T
  exists .ref (qa s),_,I2,rfl,⟨_,x,rfl,I.hok.fresh (jJ _),rfl,fun aa hq=>by rw[I.sq_inj hq B];exact G⟩,⟨⟨_,by exact_mod_cast g1⟩,(Jm (P:=X.prog) (w:=X.w) m it a).keep _ _ _ Y fun q z=>g2.extBut _ _ p.symm z⟩,fun c d=>?_
  have W:c≠(qa s):=by
   simp only[kK,jXc,or_false]at d
   rcases d with rfl | rfl
   .exact xZ n
   .obtain⟨q,z,_⟩:=(Jm (P:=X.prog) (w:=X.w) m c a).obj _ _ A;exact xZ (zQ z)
  rw[Qj W]
  exact(r c d).1
 done:=by
  intro X S O M d i g s R H E I r j D
  subst S O M
  obtain⟨xs,B,G⟩:=D
  obtain⟨N,C,L,z1⟩:=I.sq B
  obtain⟨⟨f,y⟩,A⟩:=j
  have l1:=C.length
  obtain⟨Q,V,f2,U,F,T⟩:=r it (by simp)
  exact Qfu (I.ok.hd d) (Jm m it a) y A L (kKc.mpr Om) fun h' eb=>⟨rfl,I.turned (t':=s.toks) (fun b o hb z=>eb b o hb z) Q V U F T⟩
 self:=fun _ _ _ _ _ j h=>by
  obtain⟨⟨f,u⟩,_⟩:=j
  exact wpAny_pyIter_enum u h
def iEnum(K:Fg)(m:Bool)(ta:TA):TI:=fun σ H R=>ta σ H fun vs H1=>∃a,vs=[.ref a]/\(∃xs,Sq K m H1 a xs)/\R (Ite K m a) H1
theorem Qob{a:Expr}{p:Pos}(m:Bool)(G:Gl X "enumerate")(O:X.mg "enumerate"=none)(J:PA X [a] ta)(L:qb (starEach [a] X.env=[(false,eval a X.env)])) :
  PI X (.Tuple es kk tp) (.Call (.Name "enumerate" p) [a] [] pos) (iEnum X.K m ta):=by
 intro g s D H R I h
 refine Call_ (Kp I G O Qfp (Y38 (thn (J pos g s D H _ I h) fun U d n=>?_) L rfl))
 obtain⟨T,E,l,w,v⟩:=n
 obtain⟨f,e,⟨Q,v⟩,q⟩:=v
 subst e
 obtain⟨P,rfl,N⟩:=w.one
 cases N
 obtain⟨u,w,A,S⟩:=l.sq v
 refine callType_new F.called_enumerate Dc (F.typeCall_enumerate_1 _) (F.newCall_enumerate_1 _) (fun r=>F.args_object_init_2 r _) F.entry_enumerate_new (Qlm (Qnk m f u)) ⟨A,?_⟩
 have B:(d.heap.push (Jl (itN m) f)).objs.size=(qa d)+1:=jJd ..
 have k:((d.heap.push (Jl (itN m) f)).push { cls:=.type "enumerate",data:=.fields #[.none,.bool false,.ref (qa d),rawInt 0,.none,.none] }).get? (d.heap.push (Jl (itN m) f)).objs.size=some { cls:=.type "enumerate",data:=.fields #[.none,.bool false,.ref (qa d),rawInt 0,.none,.none] }:=yJ _ rfl
 have x:((d.heap.push (Jl (itN m) f)).push { cls:=.type "enumerate",data:=.fields #[.none,.bool false,.ref (qa d),rawInt 0,.none,.none] }).get? (qa d)=some (Jl (itN m) f):=jW _ (yJ _ rfl)
 rw[B]at k
 show _/\_
 rw[B]
 have C:∀b o,d.heap.get? b=some o->((d.heap.push (Jl (itN m) f)).push { cls:=.type "enumerate",data:=.fields #[.none,.bool false,.ref (qa d),rawInt 0,.none,.none] }).get? b=some o:=fun b o z=>jW _ (jW _ z)
 generalize (d.heap.push (Jl (itN m) f)).push { cls:=.type "enumerate",data:=.fields #[.none,.bool false,.ref (qa d),rawInt 0,.none,.none] }=h' at x k C
 have M:Inv X g D E { d with heap:=h' }:=l.kept (t':=d.toks) C
 have i:f<(qa d):=Qry A
 exists ⟨_,k,rfl⟩,wpAny_pyIter_enum (s:={ d with heap:=h' }) k ⟨_,[(qa d)+1,(qa d)],_,_,E,rfl,M,Qoa (m:=m) (a:=f) (Nat.succ_ne_self _) (xZ (kQe i)) (xZ i),⟨⟨_,k⟩,Qjc m x⟩,fun c y=>?_,q⟩
 have j:(qa d)<=c:=by
  simp only[kK,jXc,or_false]at y
  rcases y with rfl | rfl
  .exact Nat.le_add_right _ _
  .exact jJ _
 exact l.fpOk j (l.hok.fresh j)
theorem Qjl{m:Bool}(b:Nat->St->Hp->Prop)(r:b 0 σ H)(q:∀i σ H,i<=xs.length->b i σ H->Sq K m H a xs)
  (k:∀i x σ H T,xs[i]?=some x->b i σ H->H T=none->g (.ref T) σ (upd H T (.tup [.int (i:Nat),x])) fun σ2 H2=>tb { D with nx:=b (i+1),ct:=b (i+1),bk:=D.nx } σ2 H2) (j:∀σ H,b xs.length σ H->D.nx σ H) :
  ∃W:Nat->Nat->St->Hp->Prop,(∃m,W 0 m σ H)/\∀i n σ H,W i n σ H ->
   ((Ite K m a).stop i H/\D.nx σ H)\/((Ite K m a).go i H/\∃N:St->Hp->Prop,(∀σ' H',N σ' H'->∃m',m'<n/\W (i+1) m' σ' H')/\∀x H',(Ite K m a).yld i H x H'->g x σ H' fun σ2 H2=>tb { D with nx:=N,ct:=N,bk:=D.nx } σ2 H2):=by
 exists fun i n σ H=>n=xs.length-i/\i<=xs.length/\b i σ H,⟨_,rfl,wJ _,r⟩,?_
 rintro i n σ H ⟨rfl,h,p⟩
 have d:=q i σ H h p
 by_cases c:i<xs.length
 .refine .inr ⟨⟨xs,xs[i],d,by simp[c]⟩,b (i+1),fun σ' H' l=>⟨xs.length-(i+1),Om,rfl,c,l⟩,fun x H' y=>?_⟩
  obtain⟨T,u,rfl,f,rfl,o⟩:=y
  exact k i u σ H T (o xs d) p f
 .have e:i=xs.length:=Om
  subst e
  exact .inl ⟨⟨xs,d,jJ _⟩,j σ H p⟩
section
variable{w:World}
theorem alive_{Q:Option Obj->Shared->Prop}(h:Q (s.heap.get? a) s):qe P w A (loadIfAlive a) Q E s:=fun _ _ _=>h
end
theorem FpOk.upd{T:Addr}{ob:HO}(h:FpOk X pins H b)(n:b≠T):FpOk X pins (upd H T ob) b:=⟨by rw[Qj n];exact h.1,h.2⟩
def Itr3(lo c:Int)(n:Nat):It:=⟨fun i _=>i<n,fun i H x H'=>H'=H/\x=.int (lo+(i:Nat)*c),fun i _=>n<=i⟩
theorem Qhr{w:World}(f:Addr)(lo c:Int)(n:Nat):Turn P w K tg (Itr3 lo c n) [f] f (fun i h=>IsRangeIter h f (lo+(i:Nat)*c) ((n:Int)-(i:Nat)) c) where
 mem:=by simp
 obj:=fun i h a b g=>by
  have e:b=f:=by simpa using g
  subst e
  exact⟨_,a,fun v z=>by
   have Q:Data.fields _=Data.cell v:=z
   cases Q⟩
 keep:=fun i h l a k=>k f (by simp) _ a
 item:=by
  intro X A x u r i d s F H E I m a p
  subst A x u
  obtain⟨y,D,L,C,q,B⟩:=m f (by simp)
  have W:=Walks.range (prog:=X.prog) (w:=X.w) (I.ok.hd r) f lo c n
  refine W.item i s _ _ p a fun v l G J j O=>?_
  obtain⟨t,rfl⟩:=J
  have M:Inv X d F H { s with heap:=l,toks:=G }:=I.turned (fun b o g e=>O b o (by simpa using g) e) y D C q B
  exists _,rfl,Qmp (s:={ s with heap:=l,toks:=G }) (n:="range_iterator") j rfl rfl Dc ⟨.int (lo+(i:Nat)*c),H,M,⟨t,rfl⟩,⟨rfl,rfl⟩,j,fun b g=>(m b g).1⟩
 done:=by
  intro X A x u r i d s F H E I m a p
  subst A x u
  obtain⟨y,D,L,C,q,B⟩:=m f (by simp)
  exact wpAny_pyNext_range_end (I.ok.hd r) a (by have:n<=i:=p;lia) fun l N=>⟨rfl,I.turned (t':=s.toks) (fun b o g e=>N b o g e) y D C q B⟩
 self:=fun _ _ _ _ _ a h=>wpAny_pyIter_rangeiter a h
theorem Qln{lo:Int}{n:Nat}(a:Nat->St->Hp->Prop)(j:a 0 σ H)
  (f:∀i σ H,i<n->a i σ H->g (.int (lo+(i:Nat)*c)) σ H fun σ2 H2=>tb { D with nx:=a (i+1),ct:=a (i+1),bk:=D.nx } σ2 H2) (d:∀σ H,a n σ H->D.nx σ H) :
  ∃W:Nat->Nat->St->Hp->Prop,(∃m,W 0 m σ H)/\∀i m σ H,W i m σ H ->
   ((Itr3 lo c n).stop i H/\D.nx σ H)\/((Itr3 lo c n).go i H/\∃N:St->Hp->Prop,(∀σ' H',N σ' H'->∃m',m'<m/\W (i+1) m' σ' H')/\∀x H',(Itr3 lo c n).yld i H x H'->g x σ H' fun σ2 H2=>tb { D with nx:=N,ct:=N,bk:=D.nx } σ2 H2):=by
 exists fun i m σ H=>m=n-i/\i<=n/\a i σ H,⟨n,by simp,wJ _,j⟩,?_
 rintro i m σ H ⟨rfl,k,p⟩
 by_cases b:i<n
 .refine .inr ⟨b,a (i+1),fun σ' H' h=>⟨n-(i+1),Om,rfl,b,h⟩,fun x H' y=>?_⟩
  obtain⟨e,y⟩:=y
  subst e y
  exact f i σ _ b p
 .have e:i=n:=Om
  subst e
  exact .inl ⟨jJ _,d σ H p⟩
def gTrip(K:Fg)(i j l:Nat):TG:=gTup K 3 (Qla (Vl i) (Qla (Vl j) (Qla (Vl l) gNil)))
theorem Qoc{l:Nat}{y z:Str}{py pz:Pos}{k:Nat}(e:X.K=K)(g:X.calm=true)(a:X.N.Nodup)(h:X.N[i]?=some x)(f:X.N[j]?=some y)(d:X.N[l]?=some z)(c:qh X x=some .local)(b:qh X y=some .local)(hz:qh X z=some .local) :
  PG X (.Tuple [.Name x px,.Name y py,.Name z pz] k pos) (gTrip K i j l):=by
 subst e
 exact Qiw g (Zr (Qt a h (.inl c) (.inr c)) (Zr (Qt a f (.inl b) (.inr b)) (Zr (Qt a d (.inl hz) (.inr hz)) Qdo)))
end L2
namespace L2
open PySem PySem.Spec PyProof.Rows PySem.SeqAt
theorem Xh{α β:Type}{R:α->β->Prop}{xs:List α}{ys:List β}(h:Paired R xs ys):∀{i:Nat} {x:α},xs[i]?=some x->∃y,ys[i]?=some y/\R x y:=by
 induction h with
 |nil=>intro i x e;exact nomatch e
 |cons z _ ih=>
  intro i x e
  match i with
  |0=>cases e;exists _,rfl,z
  |i+1=>exact ih (show _=some x from e)
theorem Qad(k:Key):Vm (kV k)=true:=by cases k<;>rfl
theorem Qod(a b:Key):eqV (kV a) (kV b)=true↔a=b:=by
 cases a with
 |inl i=>
  cases b with
  |inl j=>show(i == j)=true↔_;rw[beq_iff_eq];exists fun z=>(by rw[z]),fun z=>(by cases z;rfl)
  |inr y=>exists fun z=>(nomatch z),fun z=>(nomatch z)
 |inr x=>
  cases b with
  |inl j=>exists fun z=>(nomatch z),fun z=>(nomatch z)
  |inr y=>show(x == y)=true↔_;rw[beq_iff_eq];exists fun z=>(by rw[z]),fun z=>(by cases z;rfl)
def RowsL(H:Hp):List V->List (List Key)->Prop:=Paired fun v r=>∃l,v=.ref l/\H l=some (.lst (r.map kV))
def PlanAt(K:Fg)(H:Hp)(d:Addr)(pl:Z7):Prop:=∃kvs:List (Key×V),H d=some (.dK kvs)/\Paired (fun(p:Key×V) (q:Str×Str×Int)=>p.1=inr q.1/\∃t,p.2=.ref t/\SqT K H t [.str q.2.1,.int q.2.2]) kvs pl
theorem Qhs(r:Vals (ks.map kV) its)(h:Vals (ls.map kV) its') :
  ∀j (h1:j<its.toArray.size) (h2:j<its'.toArray.size),EqAt A s its.toArray[j] its'.toArray[j] (decide (ks[j]?=ls[j]?)):=fun j h1 h2=>by
 have l:=r.length
 have o:=h.length
 rw[jX]at l o
 rw[kX]at h1 h2
 have g:j<ks.length:=Om
 have d:j<ls.length:=Om
 obtain⟨n,c,a⟩:=r.get (i:=j) (x:=kV ks[j]) (by rw[yZ,gE g];rfl)
 obtain⟨k,f,b⟩:=h.get (i:=j) (x:=kV ls[j]) (by rw[yZ,gE d];rfl)
 have m:its.toArray[j]=n:=by rw[gE Om]at c;simpa using c
 have p:its'.toArray[j]=k:=by rw[gE Om]at f;simpa using f
 rw[m,p]
 have e:decide (ks[j]?=ls[j]?)=eqV (kV ks[j]) (kV ls[j]):=by
  rw[jJc,decide_eq_true_iff,Qod,gE g,gE d]
  exists fun z=>Y5 z,fun z=>congrArg some z
 rw[e]
 exact Qne a b (Qad _) (Qad _)
theorem Qfv(m:A.units<cLine)(I:Inv X pins σ H s)(q:SqL X.K H a (ks.map kV))(p:SqL X.K H b (ls.map kV)) :
  ∃c:Bool,(c=true↔ks=ls)/\EqAt A s (.ref a) (.ref b) c/\RcAt A s (.ref a) (.ref b) c/\RcNeAt A s (.ref a) (.ref b) (!c):=by
 obtain⟨k,r,pt,_⟩:=I.list q
 obtain⟨h,u,g,_⟩:=I.list p
 have v:=r.length
 have B:=u.length
 rw[jX]at v B
 have key:=Qhs (A:=A.in1) (s:=s) r u
 have inj:a=b->ks=ls:=fun z=>by
  subst z
  have:=I.list_inj q p
  refine Qhj (by rw[<-jX (f:=kV),this,jX]) fun i x y ex o=>?_
  have t:(ks.map kV)[i]?=(ls.map kV)[i]?:=by rw[this]
  rw[yZ,yZ,ex,o]at t
  have C:kV x=kV y:=Y5 t
  exact(Qod x y).mp (by
   rw[C]
   exact(Qod y y).mpr rfl)
 by_cases d:k.toArray.size=h.toArray.size
 .have n:((List.range k.toArray.size).all (fun j=>decide (ks[j]?=ls[j]?)))=true↔ks=ls:=by
   rw[kX,kX]at d
   rw[Vs,kX]
   constructor
   .intro w
    refine Qhj Om fun i x y ex o=>?_
    have D:=(jK.mp ex).1
    have:=kZ (w i Om)
    rw[ex,o]at this
    exact Y5 this
   .intro z
    subst z
    exact fun i _=>yX rfl
  exists _,n,?_,RcAt.lists pt.isList g.isList d m key,RcNeAt.lists pt.isList g.isList d m key
  by_cases e:a=b
  .rw[n.mpr (inj e)]
   subst e
   exact EqAt.same _
  .exact EqAt.of_refs e (RcAt.lists pt.isList g.isList d m key)
 .have l:(k.toArray.size != h.toArray.size)=true:=by simpa using d
  rw[kX,kX]at d
  have n:false=true↔ks=ls:=⟨fun z=>(nomatch z),fun z=>(by subst z;lia)⟩
  exists false,n,?_,RcAt.lists_lengths pt.isList g.isList l m,RcNeAt.lists_lengths pt.isList g.isList l m
  by_cases e:a=b
  .exact Y21 (n.mpr (inj e)) Dc
  .exact EqAt.of_refs e (RcAt.lists_lengths pt.isList g.isList l m)
theorem Qjm{n:Nat}(k:X.K=K)(m:X.A.units+n<cLine):OpR X (compareOp .Eq) (fun x y H Q=>∃(a b:Addr) (ks ls:List Key),x=.ref a/\y=.ref b/\SqL K H a (ks.map kV)/\SqL K H b (ls.map kV)/\∀c:Bool,(c=true↔ks=ls)->Q (.bl c) H):=by
 subst k
 intro d s o H x y v u Q I g i h
 obtain⟨a,b,ks,ls,rfl,rfl,j,e,q⟩:=h
 cases g
 cases i
 obtain⟨c,l,_,f,_⟩:=Qfv (A:=X.A) Om I j e
 exact f _ _ _ _ ⟨.bl c,H,I,rfl,q c l⟩
theorem op_neK{n:Nat}(k:X.K=K)(m:X.A.units+n<cLine):OpR X (compareOp .NotEq) (fun x y H Q=>∃(a b:Addr) (ks ls:List Key),x=.ref a/\y=.ref b/\SqL K H a (ks.map kV)/\SqL K H b (ls.map kV)/\∀c:Bool,(c=true↔ks=ls)->Q (.bl (!c)) H):=by
 subst k
 intro d s o H x y v u Q I g i h
 obtain⟨a,b,ks,ls,rfl,rfl,j,e,q⟩:=h
 cases g
 cases i
 obtain⟨c,l,_,_,f⟩:=Qfv (A:=X.A) Om I j e
 exact f _ _ _ _ ⟨.bl (!c),H,I,rfl,q c l⟩
theorem Quw(g:A.units<cLine)(I:Inv X pins σ H s)(h:SqL X.K H a xs)(i:SqL X.K H b []):RcAt A s (.ref a) (.ref b) xs.isEmpty/\RcNeAt A s (.ref a) (.ref b) (!xs.isEmpty):=by
 obtain⟨e,r,pt,_⟩:=I.list h
 obtain⟨d,o,c,_⟩:=I.list i
 have k:=r.length
 have l:=o.length
 cases xs with
 |nil=>
  have m:e=[]:=jJa k.symm
  have n:d=[]:=jJa l.symm
  subst m n
  have key:∀j (h:j<([]:List Value).toArray.size) (i:j<([]:List Value).toArray.size),EqAt A.in1 s ([]:List Value).toArray[j] ([]:List Value).toArray[j] ((fun _=>true) j):=fun j h _=>Y21 h (by simp)
  exists RcAt.lists pt.isList c.isList rfl g key,RcNeAt.lists pt.isList c.isList rfl g key
 |cons x xs=>
  have f:(e.toArray.size != d.toArray.size)=true:=by
   rw[kX,kX,<-k,<-l]
   simp
  exists RcAt.lists_lengths pt.isList c.isList f g,RcNeAt.lists_lengths pt.isList c.isList f g
theorem Qdx{n:Nat}(i:X.K=K)(j:X.A.units+n<cLine):OpR X (compareOp .Eq) (fun x y H Q=>∃(a b:Addr) (xs:List V),x=.ref a/\y=.ref b/\SqL K H a xs/\SqL K H b []/\Q (.bl xs.isEmpty) H):=by
 subst i
 intro c s k H x y v u Q I e f h
 obtain⟨a,b,xs,rfl,rfl,g,d,q⟩:=h
 cases e
 cases f
 exact(Quw (A:=X.A) Om I g d).1 _ _ _ _ ⟨.bl _,H,I,rfl,q⟩
theorem Qsf{n:Nat}(i:X.K=K)(j:X.A.units+n<cLine):OpR X (compareOp .NotEq) (fun x y H Q=>∃(a b:Addr) (xs:List V),x=.ref a/\y=.ref b/\SqL K H a xs/\SqL K H b []/\Q (.bl (!xs.isEmpty)) H):=by
 subst i
 intro c s k H x y v u Q I e f h
 obtain⟨a,b,xs,rfl,rfl,g,d,q⟩:=h
 cases e
 cases f
 exact(Quw (A:=X.A) Om I g d).2 _ _ _ _ ⟨.bl _,H,I,rfl,q⟩
theorem Qoe(l:A.units<cLine)(I:Inv X pins σ H s)(m:SqT X.K H a (ks.map kV))(k:SqT X.K H b (ks.map kV)):EqAt A s (.ref a) (.ref b) true:=by
 by_cases d:a=b
 .subst d
  exact EqAt.same _
 obtain⟨f,r,pt,_⟩:=I.tuple m
 obtain⟨c,h,g,_⟩:=I.tuple k
 have n:=r.length
 have o:=h.length
 have key:=Qhs (A:=A.in1) (s:=s) r h
 have:=RcAt.tuples pt g l key
 have e:((List.range (min f.toArray.size c.toArray.size)).all (fun j=>decide (ks[j]?=ks[j]?))&&f.toArray.size == c.toArray.size)=true:=by
  rw[wV,Vs,kX,kX,beq_iff_eq]
  exists fun i _=>yX rfl,Om
 rw[e]at this
 exact EqAt.of_refs d this
theorem Qjn{κ:Type}[DecidableEq κ]:∀{kvs:List (κ×V)} {i:Nat} {k:κ} {v:V},(kvs.map (·.1)).Nodup->kvs[i]?=some (k,v)->valV kvs k=some v
 |[],i,k,v,_,e=>nomatch e
 |p::r,0,k,v,_,e=>by
  cases e
  unfold valV
  rw[List.find?_cons_of_pos (by simp)]
  rfl
 |p::r,i+1,k,v,n,e=>by
  have d:(p.1::r.map (·.1)).Nodup:=n
  obtain⟨f,b⟩:=kQb.mp d
  have a:r[i]?=some (k,v):=e
  have c:¬p.1=k:=fun z=>f (by rw[z];exact zK.mpr ⟨(k,v),kY a,rfl⟩)
  have:=Qjn b a
  unfold valV at this⊢
  rw[List.find?_cons_of_neg (by simpa using c)]
  exact this
theorem Qof{kvs:List (Key×V)}{vs:List (Key×Value)}(h:KV kvs vs):kvs.map (·.1)=vs.map (·.1):=by
 induction h with
 |nil=>rfl
 |cons h _ ih=>rw[zX,zX,ih,h.1]
open PySem.MeetsSeq PySem.MeetsSeq2 PySem.MeetsSeq3 in
open AutoSeq1 (wpAny_loadPart') in
open PySem.MeetsSeq PySem.MeetsSeq2 PySem.MeetsSeq3 in
open AutoSeq1 (wpAny_loadPart') in
def Qog(K:Fg)(H:Hp):List V->List (List Key×V)->Prop:=Paired fun v p=>∃t b,v=.ref t/\SqT K H t [.ref b,p.2]/\H b=some (.tup (p.1.map kV))
def Xo(ps:List (List Key×V)):List (List Key×V):=ps.foldl (fun d p=>putK d p.1 p.2) []
theorem Jd{ps:List (List Key×V)}{p:List Key×V}(h:ps[i]?=some p):Xo (ps.take (i+1))=putK (Xo (ps.take i)) p.1 p.2:=by
 unfold Xo
 rw[List.take_add_one,h,List.foldl_append]
 rfl
theorem Qbb(ps:List (List Key×V)):(Xo ps).length<=ps.length:=by
 have key:∀(l:List (List Key×V)) (a:List (List Key×V)),(l.foldl (fun d p=>putK d p.1 p.2) a).length<=a.length+l.length:=by
  intro l
  induction l with
  |nil=>intro a;exact jJ _
  |cons p t ih=>
   intro a
   have c:=ih (putK a p.1 p.2)
   have b:=Zo a p.1 p.2
   rw[yXe,yQ]
   lia
 have:=key ps []
 rwa [kJb,Nat.zero_add]at this
theorem Qoh{l:Addr}{ps:List (List Key×V)}(hh:A.handled=none)(M:A.units+1<cLine)(hd:H d=none)(hl:SqL X.K H l vs)(L:Qog X.K H vs ps)(hz:ps.length<sizeLine)
  (hR:∀s',Inv X pins σ (upd H d (.dT (Xo ps))) s'->R (.ok (.ret .none)) s') :
  ∀(k i:Nat) (s:Shared),ps.length-i=k->i<=ps.length->Inv X pins σ (upd H d (.dT (Xo (ps.take i)))) s->s.heap.IsListIter it l i->FpOk X pins (upd H d (.dT (Xo (ps.take i)))) it ->
   codeAny (model X.prog X.w) A (.builtin "dict.update.loop" ⟨[.ref d,.ref it,rawInt i,.none],[]⟩) R s:=by
 intro k
 induction k with
 |zero=>
  intro i s hk hi I E f
  have N:i=ps.length:=Om
  subst N
  rw[yW]at I f
  have y:Same H (upd H d (.dT (Xo ps))):=Qd hd _
  obtain⟨F,r,p,_⟩:=I.list (y.seq hl)
  have lv:=Paired.length L
  have lr:=r.length
  refine Y28 Vv ?_
  rw[Y35 Zt _]
  show wpAny _ A.in1 (pyNext (.ref it) >>= _) _ _ s
  refine jQ (wpAny_pyNext_list_end (A:=A.in1) hh E p.isList (by simp;lia) fun G D=>?_)
  refine jQ (kQ (kQ ?_))
  exact hR _ (I.turned (t':=s.toks) (fun b o m e=>D b o m e) f.1 f.2.1 f.2.2.2.1 f.2.2.2.2.1 f.2.2.2.2.2)
 |succ k ih=>
  intro i s hk hi I E f
  have y:Same H (upd H d (.dT (Xo (ps.take i)))):=Qd hd _
  obtain⟨F,r,p,_⟩:=I.list (y.seq hl)
  have lv:=Paired.length L
  have B:i<vs.length:=Om
  obtain⟨g,ep,t,b,ev,hT,m⟩:=Xh L (gE B)
  obtain⟨u,Y,ru⟩:=r.get (gE B)
  rw[ev]at ru
  cases ru
  refine Y28 Vv ?_
  rw[Y35 Zt _]
  show wpAny _ A.in1 (pyNext (.ref it) >>= _) _ _ s
  refine jQ (wpAny_pyNext_list_item E p.isList (x:=.ref t) (by simpa using Y) fun G Q sb=>?_)
  have C:Inv X pins σ (upd H d (.dT (Xo (ps.take i)))) { s with heap:=G }:=I.turned (t':=s.toks) (fun b o m e=>(sb.2 b m).trans e) f.1 f.2.1 f.2.2.2.1 f.2.2.2.2.1 f.2.2.2.2.2
  obtain⟨aa,r2,⟨ot,Z,ct,nt,dt⟩,_⟩:=C.tuple (y.tup hT)
  obtain⟨u1,u2,rfl,W,P⟩:=r2.two
  cases W
  refine jQ (Y30 ?_)
  refine jQ (wpAny_tryCatch ?_)
  unfold Builtin.Dict.pairItems
  refine jQ (Y40 (T:="tuple") ⟨ot,Z,ct⟩ ?_)
  rw[Y22 (by simp)]
  refine jQ (wpAny_seqItems Z dt (kQ ?_))
  show wpAny _ _ (holding [Value.ref b,u2] (dictSet d (Value.ref b) u2)) _ _ _
  obtain⟨z,O,xs,v,dd⟩:=Qwi C.hok (Qc (H:=H) (a:=d) (o:=.dT (Xo (ps.take i))))
  have l1:=Qbb (ps.take i)
  rw[zZ]at l1
  have U:xs.length<=sizeLine:=by rw[<-Paired.length v];exact z
  have D:=y _ _ m
  refine Y30 (wpAny_dictSet_heap (hsz:=U) (knd:=tupleKind (Xm X.prog X.w)) (k:=g.1) (by first | exact M | exact Nat.lt_of_succ_lt M | (show A.units+1<cLine;exact M)) (Qba C.hok D) dd fun h2 J n=>?_)
  obtain⟨q,es,S,hq,q2,q3,q4,_,q5⟩:=J
  have l2:=Zo (Xo (ps.take i)) g.1 g.2
  have I2:Inv X pins σ (upd (upd H d (.dT (Xo (ps.take i)))) d (.dT (putK (Xo (ps.take i)) g.1 g.2))) { s with heap:=h2,toks:=s.toks+(tupleKind (Xm X.prog X.w)).draws g.1 } :=
   We (s:={ s with heap:=G }) C (by rw[Qc];exact True.intro) n ⟨q,hq⟩ ⟨Om,O,_,(v.put g.1 D P).keeps fun c ys ec=>(by
    rw[Qj (Ym ec (Qc (H:=H) (a:=d) (o:=.dT (Xo (ps.take i)))) (fun z=>nomatch z))]
    exact ec),q,es,S,hq,q2,q3,q4,q5⟩
  rw[Qhg,<-Jd ep]at I2
  have j:it≠d:=fun e=>by have:=f.1;rw[e,Qc]at this;cases this
  refine kQ ⟨kXd Zt _,?_⟩
  have N:rawInt ((i:Int)+1)=rawInt ((i+1:Nat):Int):=by push_cast;rfl
  rw[N]
  refine ih (i+1) _ Om Om I2 (Q.at fun o e=>n.extBut _ _ j e) ⟨?_,f.2⟩
  have:=f.1
  rw[Qj j]at this⊢
  exact this
theorem Qdy{n:Nat}(hn:2<=n)(hu:X.A.units+n<cLine)(x:X.calm=true):CallR X (.type "dict") (fun xs H Q=>∃(l:Addr) (vs:List V) (ps:List (List Key×V)),xs=[.ref l]/\SqL X.K H l vs/\Qog X.K H vs ps/\ps.length<sizeLine/\∀d,H d=none->Q (.ref d) (upd H d (.dT (Xo ps)))):=by
 intro pins s σ H xs us Q I rv h
 obtain⟨l,vs,ps,rfl,m,M,S,q⟩:=h
 obtain⟨u,rfl,Y⟩:=rv.one
 cases Y
 refine callType_codes (Q₁:=fun g G=>g=.ref (qa s)/\G={ s with heap:=s.heap.push { cls:=.type "dict",data:=.dict #[] } }) F.kt_called_dict (F.kt_typeCall_dict_1 _) F.entry_dict_init (kt_code_dict_new _ ⟨rfl,rfl⟩) ?_
 rintro g G ⟨rfl,rfl⟩
 have k:H (qa s)=none:=I.hok.fresh (jJ _)
 have p:Inv X pins σ (upd H (qa s) (.dT [])) { s with heap:=s.heap.push { cls:=.type "dict",data:=.dict #[] } }:=I.laid (t':=s.toks) (fun _ _ q=>jW _ q) (jJ _) (Qsd s.heap I.big)
 have D:Same H (upd H (qa s) (.dT [])):=Qd k _
 obtain⟨z,O,kv,R,y⟩:=Qwi p.hok (Qc (H:=H) (a:=(qa s)) (o:=.dT []))
 exists y.typeIs,F.args_dict_init_2 _ _,?_
 unfold Builtin.«dict.__init__»
 refine jQ ?_
 unfold Builtin.Dict.selfAndRest
 refine jQ (Y59 y.typeIs ?_)
 show wpAny _ _ (pure ((qa s),[Value.ref l])) _ _ _
 refine kQ ?_
 show wpAny _ _ (Builtin.Dict.updateFrom "dict.__init__" (qa s) (.ref l) [] .none) _ _ _
 unfold Builtin.Dict.updateFrom
 obtain⟨J,r,⟨o,n5,e,c,C,B⟩,_⟩:=p.list (D.seq m)
 obtain⟨cls,Z,W,N⟩:=o
 simp only at c C B
 subst c C B
 refine jQ (Y40 (T:="list") ⟨_,e,rfl⟩ ?_)
 rw[Y22 Dc]
 refine jQ (Vu (s:={ s with heap:=s.heap.push { cls:=.type "dict",data:=.dict #[] } }) e (by exact I.ok.hd x) fun j f v=>?_)
 have i:Inv X pins σ (upd H (qa s) (.dT [])) { s with heap:=j,toks:=f }:=p.kept v
 rw[Y22 (by rfl)]
 refine jQ (Y58 (jQ ?_))
 obtain⟨E,r2,P,_⟩:=i.list (D.seq m)
 refine Y51 (s:={ s with heap:=j,toks:=f }) P.isList ?_
 refine kQ ⟨kXd Zt _,?_⟩
 have U:Inv X pins σ (upd H (qa s) (.dT [])) { s with heap:=j.push { cls:=.type "list_iterator",data:=.fields #[.ref l,.int 0 0] },toks:=f }:=i.kept (t':=f) fun b o e=>jW _ e
 have w:=i.hok.fresh (a:=j.objs.size) (jJ _)
 refine Qoh (X:=X) (pins:=pins) (σ:=σ) (H:=H) (vs:=vs) (ps:=ps) (A:=X.A.in1) (by exact I.ok.hd x) (by show X.A.units+1+1<cLine;lia) k m M S (fun s' L=>⟨rfl,.ref (qa s),_,L,rfl,q _ k⟩) ps.length 0 _ Om (wJ _) U ⟨_,yJ _ rfl,rfl,rfl⟩ (i.fpOk (jJ _) w)
end L2
namespace L2
open PySem PySem.Spec PyProof.Rows PySem.W
inductive IsT:String->Prop
 |int:IsT "int"
 |bool:IsT "bool"
 |tuple:IsT "tuple"
 |list:IsT "list"
 |str:IsT "str"
def isiW(K:Fg)(H:Hp):V->String->Bool->Prop
 |.non,_,b=>b=false
 |.int _,T,b=>b=decide (T="int")
 |.bl _,T,b=>b=decide (T="int"\/T="bool")
 |.str _,T,b=>b=decide (T="str")
 |.ref a,T,b=>((∃xs,SqT K H a xs)/\b=decide (T="tuple"))\/((∃xs,SqL K H a xs)/\b=decide (T="list"))
 |_,_,_=>False
theorem Vw:CallR X (.builtin "isinstance") (fun xs H Q=>∃x T b,xs=[x,.ty T]/\IsT T/\isiW X.K H x T b/\Q (.bl b) H):=by
 intro g s w H xs z Q I y h
 obtain⟨x,T,b,rfl,f,d,q⟩:=h
 obtain⟨u,v,rfl,i,m⟩:=y.two
 cases m
 have fin:∀(k:Nat),EP X g w Q (.bool b) { s with toks:=k }:=fun k=>⟨.bl b,H,I.tok k,rfl,q⟩
 cases x with
 |int n=>
  obtain⟨t,rfl⟩:=i
  cases f<;>(subst d)
  .exact IsiPair.int_int (fin s.toks)
  .exact IsiPair.int_bool (fin _)
  .exact IsiPair.int_tuple (fin _)
  .exact IsiPair.int_list (fin _)
  .exact IsiPair.int_str (fin _)
 |bl n=>
  cases i
  cases f<;>(subst d)
  .exact IsiPair.bool_int (fin s.toks)
  .exact IsiPair.bool_bool (fin s.toks)
  .exact IsiPair.bool_tuple (fin _)
  .exact IsiPair.bool_list (fin _)
  .exact IsiPair.bool_str (fin _)
 |str n=>
  obtain⟨t,rfl⟩:=i
  cases f<;>(subst d)
  .exact IsiPair.str_int (fin _)
  .exact IsiPair.str_bool (fin _)
  .exact IsiPair.str_tuple (fin _)
  .exact IsiPair.str_list (fin _)
  .exact IsiPair.str_str (fin s.toks)
 |non=>
  cases i
  cases f<;>(subst d)
  .exact IsiPair.NoneType_int (fin _)
  .exact IsiPair.NoneType_bool (fin _)
  .exact IsiPair.NoneType_tuple (fin _)
  .exact IsiPair.NoneType_list (fin _)
  .exact IsiPair.NoneType_str (fin _)
 |ref a=>
  cases i
  rcases d with⟨⟨xs,l⟩,d⟩ | ⟨⟨xs,l⟩,d⟩
  .obtain⟨j,r,⟨o,e,c,_⟩,_⟩:=I.tuple l
   cases f<;>(subst d)
   .exact IsiPair.tuple_int e c (fin _)
   .exact IsiPair.tuple_bool e c (fin _)
   .exact IsiPair.tuple_tuple e c (fin s.toks)
   .exact IsiPair.tuple_list e c (fin _)
   .exact IsiPair.tuple_str e c (fin _)
  .obtain⟨j,r,p,_⟩:=I.list l
   obtain⟨o,e,c,_⟩:=p.isList
   cases f<;>(subst d)
   .exact IsiPair.list_int e c (fin _)
   .exact IsiPair.list_bool e c (fin _)
   .exact IsiPair.list_tuple e c (fin _)
   .exact IsiPair.list_list e c (fin s.toks)
   .exact IsiPair.list_str e c (fin _)
 |byt _=>exact d.elim
 |flt _=>exact d.elim
 |ty _=>exact d.elim
end L2
namespace L2
open PySem PySem.Spec PySem.Calls PyProof.Rows PySem.W
theorem ObjOk.ex{w:World}{h:Heap}{o:HO}(x:ObjOk P w H h a o):∃ob,h.get? a=some ob:=by
 cases o with
 |lst xs=>obtain⟨_,_,_,_,e⟩:=x;exists _,e
 |tup xs=>obtain⟨_,_,_,ob,e,_⟩:=x;exists _,e
 |dK kvs=>obtain⟨_,_,_,_,o,_,_,e,_⟩:=x;exists _,e
 |dT kvs=>obtain⟨_,_,_,_,o,_,_,e,_⟩:=x;exists _,e
 |set S n=>obtain⟨o,_,_,_,e,_⟩:=x;exists _,e
 |ins C dx fs=>obtain⟨_,_,_,e,_⟩:=x;exists _,e
 |own y=>exact x
 |xd fs=>obtain⟨_,⟨_,_,_,e,_⟩,_⟩:=x;exists _,e
 |rng lo hi=>obtain⟨_,_,_,e⟩:=x;exists _,e
 |frz ob u=>exists _,x.1
 |tbl ps=>exists _,x
 |met f y=>exists _,x
 |ext φ=>exact x.2.1
theorem Qsg{fs:List Addr}{h h1 h2 B:Heap}(u:Un fs [] H H' h h1)(c:∀b,b∉fs->((∃o,h.get? b=some o)\/H' b≠none)->∃o,B.get? b=some o)(s:B.StaysIn h1)(m:B.StaysIn h2)(p:h1.UpToSlots h2)
  (q:∀b∈fs,∃o,h1.get? b=some o/\∀vs,o.data≠.fields vs):Un fs [] H H' h h2 where
 keep:=fun b o e n a k=>by
  have i:=u.keep b o e n a k
  obtain⟨f,g⟩:=c b a (.inl ⟨o,e⟩)
  have d:=s b f g
  rw[i]at d
  cases d
  exact m b o g
 slot:=fun b o e n a k=>by
  obtain⟨r,i⟩:=u.slot b o e n a k
  obtain⟨f,j,nf⟩:=q b a
  rw[i]at j
  cases j
  obtain⟨l,d⟩:=p b _ i nf
  exists l,d
 free:=u.free
 there:=fun b o e k=>by
  by_cases a:b∈fs
  .obtain⟨f,j,nf⟩:=q b a
   obtain⟨r,d⟩:=p b _ j nf
   exists _,d
  .obtain⟨f,g⟩:=c b a (.inl ⟨o,e⟩)
   exists f,m b f g
 tups:=u.tups
 frzs:=u.frzs
 tbls:=u.tbls
theorem Qjo{w:World}{fs:List Addr}{h h1 h2 B:Heap}(x:HOk P w H' h1)(c:∀b,b∉fs->((∃o,h.get? b=some o)\/H' b≠none)->∃o,B.get? b=some o)(k:B.StaysIn h1)(j:B.StaysIn h2)(l:∀b∈fs,H' b=none):HOk P w H' h2:=fun b i e=>by
 refine(x b i e).stay (fun d u hd q=>?_) (fun _ q=>q) fun _ _ q=>q
 have a:H' d≠none:=by
  rcases hd with rfl | hd
  .rw[e];exact fun z=>nomatch z
  .rw[hd];exact fun z=>nomatch z
 obtain⟨m,g⟩:=c d (fun z=>a (l d z)) (.inr a)
 have f:=k d m g
 rw[q]at f
 cases f
 exact j d u g
theorem Yk{h B:Heap}{l:List Env}(f:h.FunFrames B l):∀b∈frs l,∃o,h.get? b=some o/\∀vs,o.data≠.fields vs:=fun b a=>(f.mem a).2
abbrev Cx.suite(X:Cx)(e:Addr):Cx:={ X with A:=X.A.mark (some (.ref e)),calm:=false,xe:=fun _ _=>False }
theorem Cx.Ok.suite(ok:X.Ok)(e:Addr):(X.suite e).Ok :=
 ⟨ok.mod,ok.kind,ok.glob,ok.blt,ok.above,ok.inj,ok.has,ok.cab,(fun z=>nomatch z),ok.frames,ok.stk,ok.exf,ok.bs,ok.bsz,ok.noex,ok.exfs,ok.funs,ok.frf⟩
section
variable{e:Addr}
theorem Inv.suite(I:Inv X pins σ H s)(e:Addr):Inv (X.suite e) pins σ H s:=⟨I.ok.suite e,I.os,I.bare,I.base,I.loc,I.cell,I.free,I.freeC,I.pin,I.hok,I.len⟩
theorem Inv.unsuite(ok:X.Ok)(I:Inv (X.suite e) pins σ H s):Inv X pins σ H s:=⟨ok,I.os,I.bare,I.base,I.loc,I.cell,I.free,I.freeC,I.pin,I.hok,I.len⟩
theorem Un.track{fs:List Addr}{h:Heap}{o:HO}(u:Un fs [] H H' h h')(i:h.get? e=none)(he:H' e=none):Un fs [] H (upd H' e o) h h' where
 keep:=u.keep
 slot:=u.slot
 free:=fun b a q n g=>by
  have f:b≠e:=fun z=>by rw[z,i]at q;cases q
  rw[Qj f]
  exact u.free b a q n g
 there:=u.there
 tups:=fun b d q=>by have:=u.tups b d q;rw[Qj (Qm this he)];exact this
 frzs:=fun b a v q=>by have:=u.frzs b a v q;rw[Qj (Qm this he)];exact this
 tbls:=fun b ps q=>by
  obtain⟨m,c⟩:=u.tbls b ps q
  exists m,by rw[Qj (Qm c he)];exact c
theorem HOk.track{w:World}{h:Heap}{o:HO}(x:HOk P w H' h)(he:H' e=none)(a:ObjOk P w (upd H' e o) h e o):HOk P w (upd H' e o) h:=fun b u q=>by
 by_cases d:b=e
 .subst d;rw[Qc]at q;cases q;exact a
 .rw[Qj d]at q
  exact(x b u q).stay (fun _ _ _ q=>q) (fun c q=>by rw[Qj (Qm q he)];exact q) fun c f q=>by rw[Qj (Qm q he)];exact q
theorem Qoi{v:V}{Q:Unit->Shared->Prop}(I:Inv X pins σ H s)(hN:X.N.Nodup)(K:X.N[i]?=some x)(D:qh X x=some .local)(Z:σ[i]?=some (some v))
  (h:∀s',Inv X pins (σ.set i none) H s'->Q () s'):wpAny M A (unbindName X.env x) Q E s:=by
 obtain⟨m,U,T⟩:=id I.loc
 have t:(X.env.scope.kind == .class||(X.env.scope.kind == .module&&X.env.locals != X.env.globals))=false:=by rw[I.ok.kind];rfl
 have cne:=I.cne
 obtain⟨u,_,lk⟩:=T i x v K Z (.inl D)
 have hm:m x=some u:=by
  rcases lk with⟨_,z⟩ | ⟨z,_⟩
  .exact z
  .rcases z with z | z
   .have:=(show qh X x=some .cell from z);rw[D]at this;cases this
   .have:=(show qh X x=some .free from z);rw[D]at this;cases this
 have C:i<σ.length:=by rw[I.len];exact(jK.mp K).1
 have f:∀{a:Addr} {F:Heap},(∃o,s.heap.get? a=some o/\H a=none)->Heap.SameBut a s.heap F->HOk X.prog X.w H F:=fun{a F} ha g=>HOk.but I.hok ha.choose_spec.2 g
 refine wpAny_unbindName_local D U hm t fun F u' R g=>?_
 obtain⟨Y,_,_,O,_⟩:=id U
 refine h _ ⟨I.ok,I.os,I.bare,⟨fun b o e n L B=>?_,fun b o e n L B=>?_,I.base.free,fun b o e B=>?_,I.base.tups,I.base.frzs,I.base.tbls⟩,⟨_,R,fun j y W l G e3=>?_⟩,fun y c e=>?_,I.free,I.freeC,fun p hp=>?_,f ⟨Y,O,I.free⟩ g,by simpa using I.len⟩
 .exact(g.2 b (xZ (xW (zQ e) I.ok.above))).trans (I.base.keep b o e n L B)
 .obtain⟨sl,l⟩:=I.base.slot b o e n L B
  exists sl,(g.2 b (xZ (xW (zQ e) I.ok.above))).trans l
 .obtain⟨o',l⟩:=I.base.there b o e B
  exists o',(g.2 b (xZ (xW (zQ e) I.ok.above))).trans l
 .by_cases P:j=i
  .subst P
   rw[jKf C]at G
   cases G
  .rw[yYd (Ne.symm P)]at G
   obtain⟨J,r',q⟩:=T j y W l G e3
   exists J,r',?_
   rcases q with⟨k,e⟩ | ⟨k,c,e,z⟩
   .refine .inl ⟨k,?_⟩
    have:y≠x:=fun e=>P (Qdm hN l (e▸K))
    simp[this,e]
   .exact .inr ⟨k,c,e,z.sameBut g (cne y c e)⟩
 .obtain⟨J,z⟩:=I.cell y c e
  exists J,z.sameBut g (cne y c e)
 .obtain⟨e,n,S,nf,d⟩:=I.pin p hp
  exists (g.2 p.1 S).trans e,n,S,nf,d
end
def IsA(K:Fg)(C D:Addr):Prop:=∀(M:Model) (A:Around) (E:VP) (s:Shared) (e:Addr) (ob:Obj) (Q:Bool->Shared->Prop),K.In s.heap->s.heap.get? e=some ob->ob.cls=.ref C->Q true s->wpAny M A (excMatches (.ref e) (.ref D)) Q E s
structure ExcIn(K:Frag)(C:Addr):Prop where
 ga:findIn K (.ref C) "__getattribute__"=some (some (.builtin "BaseException.__getattribute__"))
 gn:findIn K (.ref C) "__getattr__"=some none
 cl:findIn K (.ref C) "__class__"=some (some (.builtin "object.__class__"))
 mo:mroIn K C (.type "object")=some true
 mb:mroIn K C (.type "BaseException")=some true
section
variable{w:World}{h:Heap}{g:Array GenState}{d:Drawn}{t:Nat}{os:OsState}{K:Frag}
theorem Jp(c:h.get? a=some o)(b:o.cls=.ref C):Looks M h (typeOf (.ref a)) (.ref C):=b▸(Looks.ld c).andThen .now
open Builtin Builtin.ObjectAttr Builtin.Getset_descriptor in
theorem ex_get{tp:Value}(X:K.In h)(Z:ExcIn K C)(e:h.get? a=some o)(c:o.cls=.ref C)(b:R (.ok (.ret (.ref C))) ⟨h,g,d,t,os⟩) :
  codeAny (model prog w) A (.call (.builtin "getset_descriptor.__get__") ⟨[.builtin "object.__class__",.ref a,tp],[]⟩) R ⟨h,g,d,t,os⟩:=by
 have i:=Jp (M:=model prog w) e c
 have f:=looks_mroIn (M:=model prog w) X Z.mo
 refine Y43 KF.slot_gs.plain KF.entry_gs (KF.slot_gs.check _ _ _ _ _ _ _ _ KF.type_class (KF.args_gs _ _ _) ?_)
 unfold Builtin.«getset_descriptor.__get__» descrGet
 rw[dga_obj]
 refine jQ (kQ ?_)
 unfold descrGetter descrCheckInstance descrNameAndClass isInstance
 simp only[KF.owner_class]
 repeat lk
 exists Code.quiet_builtin _ Dk,Y28 KF.entry_class ?_
 unfold Builtin.«object.__class__» shownTypeOf
 repeat lk
 exact b
theorem Qsh{Q:Fin->Shared->Prop}(X:K.In h)(Z:ExcIn K C)(c:h.get? a=some o)(b:o.cls=.ref C)(j:Q (.done (.ret (.ref C))) ⟨h,g,d,t,os⟩) :
  qe prog w A (Builtin.«object.__getattribute__» ⟨[.ref a,.str "__class__" tk],[]⟩) Q E ⟨h,g,d,t,os⟩:=by
 have i:=Jp (M:=model prog w) c b
 have f:=looks_findIn (M:=model prog w) X Z.cl
 have e:(⟨h,g,d,t,os⟩:Shared).TypeIs (.builtin "object.__class__") "getset_descriptor":=F.typeOf_object_class
 have l:=F.typeOf_object_class
 have k:=F.slot_gs_get.lookup
 have m:=F.slot_gs_set.lookup
 repeat (any_goals (first | assumption | (with_reducible refine Y27 c ?_;rw[b]) | with_reducible refine Looks.at (by assumption) ?_ | wp_step))
 refine ex_get X Z c b ?_
 repeat (any_goals (first | assumption | wp_step))
theorem Qwl(X:K.In h)(Z:ExcIn K C)(c:h.get? a=some o)(b:o.cls=.ref C)(l:R (.ok (.ret (.ref C))) ⟨h,g,d,t,os⟩) :
  codeAny (model prog w) A (.call (.builtin "BaseException.__getattribute__") ⟨[.ref a,.str "__class__" tk],[]⟩) R ⟨h,g,d,t,os⟩:=by
 refine Y43 F.excAttr_ValueError.ga.plain F.entry_bexc_ga ?_
 have e:builtinKind "BaseException.__getattribute__"=some .slot:=Dk
 have j:splitId "BaseException.__getattribute__"=some ("BaseException","__getattribute__"):=Dk
 have m:=F.args_bexc_ga (.ref a) (.str "__class__" tk)
 have i:=Jp (M:=model prog w) c b
 have f:=looks_mroIn (M:=model prog w) X Z.mb
 have k:Looks (model prog w) h (isInstance (.ref a) (.type "BaseException")) true:=i.andThen f
 simp only[checkBuiltinCall,e,j]
 refine jQ (k.at ?_)
 repeat (first | exact Qsh X Z c b l | wp_step)
theorem ex_by{fill:Bool}{Q:VP}(X:K.In h)(Z:ExcIn K C)(e:h.get? a=some o)(c:o.cls=.ref C)(n:Q (.ref C) ⟨h,g,d,t,os⟩) :
  qe prog w A (getAttrBy (.ref a) (.str "__class__" tk) fill expr) Q E ⟨h,g,d,t,os⟩:=by
 have l:=Jp (M:=model prog w) e c
 have k:=looks_findIn (M:=model prog w) X Z.ga
 have m:=looks_findIn (M:=model prog w) X Z.gn
 have j:=F.excAttr_ValueError.ga.bind (.ref a)
 have i:(expr&&onTheHeap (Value.builtin "BaseException.__getattribute__"))=false:=by cases expr<;>rfl
 have b:(Value.builtin "BaseException.__getattribute__" == Value.builtin "object.__getattribute__")=false:=Dk
 have f:(onTheHeap (Value.ref C)&&Value.builtin "BaseException.__getattribute__" == Value.builtin "object.__getattribute__")=false:=by rw[b];rfl
 repeat (any_goals (first | assumption | with_reducible refine Looks.at (by assumption) ?_ | wp_step))
 refine Qwl X Z e c ?_
 repeat (any_goals (first | assumption | wp_step))
theorem Qwm(X:K.In s.heap)(Z:ExcIn K C)(c:s.heap.get? a=some o)(b:o.cls=.ref C)(f:Q (some (.ref C)) { s with toks:=s.toks+1 }) :
  qe prog w A (getAttr? (.ref a) "__class__") Q E s:=by
 obtain⟨h,g,d,t,e⟩:=s
 unfold getAttr? getAttrBy?
 repeat (any_goals (first | assumption | with_reducible refine ex_by X Z c b ?_ | wp_step))
end
abbrev vErr:List Value:=[.type "ValueError",.type "Exception",.type "BaseException",.type "object"]
theorem Qbc{K:Frag}{b:Value}{r:Bool}(e:mroIn K C b=some r):∃c d cd sl,K.lookup C=some ⟨c,d,.cls cd,sl⟩:=by
 obtain⟨cd,a,_⟩:=Option.bind_eq_some_iff.mp e
 unfold clsIn at a
 split at a
 .rename_i c d f sl g
  exists c,d,f,sl,g
 .cases a
theorem Qdz{K:Frag}(Z:ExcIn K C):KitX K (.ref a) (.ref C) (fun h=>∃o,h.get? a=some o/\o.cls=.ref C) where
 ty:=fun M h X ⟨o,hx,hc⟩=>Jp hx hc
 it:=fun M h X _=>by
  obtain⟨c,d,i,g,b⟩:=Qbc Z.mo
  intro A Q E s k q
  unfold isType loadHead
  exact jQ (wpAny_loadPart (k _ _ (X _ _ b)) (kQ q))
 ne:=fun h p m j n g X e=>by
  obtain⟨c,d,i,f,b⟩:=Qbc Z.mo
  have l:=X _ _ b
  refine beq_eq_false_iff_ne.mpr fun z=>?_
  cases z
  rw[l]at e
  cases e
 ca:=fun X ⟨o,hx,hc⟩ q=>Qwm X Z hx hc q
theorem Qht:∀{Ds:List Addr} {its:List Value},Vals (Ds.map V.ref) its->its=Ds.map Value.ref
 |[],_,.nil=>rfl
 |D::r,_,.cons a b=>by cases a;rw[zX,Qht b]
def Big(i:Int):Prop:=i.natAbs<2 ^ 4000
theorem Qsi:OpR X (binaryOp .FloorDiv) (rI (fun _ j=>j≠0/\Big j) fun i j=>.int (i.fdiv j)):=opI fun i j _ _ _ _ _ a q=>floordiv_int a.1 q (.inl (PyProof.noPylong_of_log2 (xW ((Nat.log2_lt (by have:=a.1;lia)).mpr a.2) Dc)))
theorem isA_of{K:Frag}{D:Addr}(h:mroIn K C (.ref D)=some true)(a:mroIn K D (.type "BaseException")=some true)(f:typeIn K (.ref D)=some (.type "type")):IsA K C D:=by
 intro M A E s e n Q X l j q
 have r:=Jp (M:=M) l j
 have o:=looks_mroIn (M:=M) X h
 have u:=looks_mroIn (M:=M) X a
 have i:=looks_typeIn (M:=M) X f
 have m:Looks M s.heap (isSubtype (.type "type") (.type "tuple")) false:=Looks.of_pure tc_notTuple
 have b:Looks M s.heap (isInstance (.ref D) (.type "tuple")) false:=i.andThen m
 have t:Looks M s.heap (isType (.ref D)) true:=by
  obtain⟨c,d,v,p,g⟩:=Qbc a
  intro A Q E w k q
  unfold isType loadHead
  exact jQ (wpAny_loadPart (k _ _ (X _ _ g)) (kQ q))
 unfold excMatches
 refine jQ (b.at ?_)
 unfold isExcClass
 repeat (any_goals (first | exact q | with_reducible refine Looks.at (by assumption) ?_ | wp_step))
theorem Qbd:∀(names:List (Str×NameKind)) (n:Nat) (acc:List (Str×Addr)) {x:Str} {c:Addr},(cellsFrom n names acc).lookup x=some c->((x,NameKind.cell)∈names/\n<=c)\/acc.lookup x=some c
 |[],n,acc,x,c,h=>.inr h
 |(y,k)::r,n,acc,x,c,h=>by
  unfold cellsFrom at h
  by_cases a:(k == NameKind.cell)=true
  .rw[Y22 a]at h
   rcases Qbd r (n+1) ((y,n)::acc) h with⟨b,e⟩ | h
   .exact .inl ⟨kJ _ b,Om⟩
   .rw[jQd]at h
    cases d:x == y with
    |true=>
     rw[d]at h
     have f:x=y:=by simpa using d
     have i:n=c:=Y5 h
     have g:k=.cell:=by simpa using a
     subst f g
     exact .inl ⟨jY,Om⟩
    |false=>rw[d]at h;exact .inr h
  .rw[Y20 a]at h
   rcases Qbd r n acc h with⟨b,e⟩ | h
   .exact .inl ⟨kJ _ b,e⟩
   .exact .inr h
theorem Qoj:∀(names:List (Str×NameKind)) (n:Nat) (acc:List (Str×Addr)),(∀x c,acc.lookup x=some c->c<n)->(∀x y c,acc.lookup x=some c->acc.lookup y=some c->x=y)->∀x y c,(cellsFrom n names acc).lookup x=some c->(cellsFrom n names acc).lookup y=some c->x=y
 |[],n,acc,_,hi=>hi
 |(z,k)::r,n,acc,hl,hi=>by
  unfold cellsFrom
  by_cases b:(k == NameKind.cell)=true
  .rw[Y22 b]
   have look:∀x c,((z,n)::acc).lookup x=some c->(x=z/\c=n)\/acc.lookup x=some c:=fun x c h=>by
    rw[jQd]at h
    cases a:x == z with
    |true=>rw[a]at h;exact .inl ⟨by simpa using a,(Y5 h).symm⟩
    |false=>rw[a]at h;exact .inr h
   refine Qoj r (n+1) ((z,n)::acc) (fun x c h=>?_) fun x y c h1 h2=>?_
   .rcases look x c h with⟨_,e⟩ | h
    .rw[e];exact Nat.lt_succ_self _
    .exact kQe (hl x c h)
   .rcases look x c h1 with⟨d,g⟩ | h1<;>rcases look y c h2 with⟨f,i⟩ | h2
    .rw[d,f]
    .exact Y21 (hl y c h2) (by rw[g];exact jZd _)
    .exact Y21 (hl x c h1) (by rw[i];exact jZd _)
    .exact hi x y c h1 h2
  .rw[Y20 b]
   exact Qoj r n acc hl hi
theorem Qok:∀(names:List (Str×NameKind)) (n:Nat) (acc:List (Str×Addr)) {x:Str},(x,NameKind.cell)∉names->(cellsFrom n names acc).lookup x=acc.lookup x
 |[],n,acc,x,h=>rfl
 |(y,k)::r,n,acc,x,h=>by
  unfold cellsFrom
  by_cases a:(k == NameKind.cell)=true
  .rw[Y22 a,Qok r (n+1) _ fun z=>h (kJ _ z),jQd]
   have b:k=.cell:=by simpa using a
   subst b
   cases c:x == y with
   |true=>
    have d:x=y:=by simpa using c
    subst d
    exact Y21 jY h
   |false=>rfl
  .rw[Y20 a]
   exact Qok r n acc fun z=>h (kJ _ z)
theorem Qux{env:Env}:∀(l:List (Str×NameKind)) (cs:List (Str×Addr)) {x:Str} {c:Addr},(Yu env l cs).lookup x=some c->(x,NameKind.free)∈l\/cs.lookup x=some c
 |[],cs,x,c,h=>.inr h
 |(n,k)::r,cs,x,c,h=>by
  unfold Yu at h
  rcases Qux r _ h with h | h
  .exact .inl (kJ _ h)
  .by_cases a:k=.free
   .rw[Y22 a,jQd]at h
    cases b:x == n with
    |true=>
     have d:x=n:=by simpa using b
     subst d a
     exact .inl jY
    |false=>rw[b]at h;exact .inr h
   .rw[Y20 a]at h
    exact .inr h
theorem Qsj(names:List (Str×NameKind)):∀(h:Heap) (acc:List (Str×Addr)) {x:Str} {c:Addr},(cellsFrom h.objs.size names acc).lookup x=some c->acc.lookup x=some c\/(pushCells h names).IsCell c none:=by
 induction names with
 |nil=>intro h acc x c e;exact .inl e
 |cons p r ih=>
  obtain⟨y,k⟩:=p
  intro h acc x c e
  unfold cellsFrom at e
  unfold pushCells
  by_cases a:(k == NameKind.cell)=true
  .rw[Y22 a]at e⊢
   have:=ih (h.push { cls:=.type "cell",data:=.cell none }) ((y,h.objs.size)::acc) (x:=x) (c:=c) (by rw[jJd];exact e)
   rcases this with e2 | e2
   .rw[jQd]at e2
    cases b:x == y with
    |true=>
     rw[b]at e2
     have d:h.objs.size=c:=Y5 e2
     subst d
     exact .inr ⟨_,pushCells_keeps r _ _ _ (yJ _ rfl),rfl⟩
    |false=>rw[b]at e2;exact .inl e2
   .exact .inr e2
  .rw[Y20 a]at e⊢
   exact ih h acc e
theorem Qlo{globals:Addr}{closure:List (Str×Addr)}{env:Env}{Q:Env->Shared->Prop}
  (c:Q { scope:=scope,locals:=(qa s),globals:=globals,cells:=cellsFrom ((qa s)+1) scope.names closure,qual:=qual,func:=none,code:=env.code,frame:=env.frame,builtins:=env.builtins } { s with heap:=pushCells (s.heap.push { cls:=.type "dict",data:=.dict #[] }) scope.names }) :
  wpAny M A (newFunctionEnv scope globals closure [] qual none .none (some env)) Q E s:=by
 simp only[newFunctionEnv,Option.isSome_some,if_true]
 refine jQ (wpAny_alloc ?_)
 refine jQ (wpAny_layCells _ (fun b kind cells=>by cases a:kind == NameKind.cell<;>simp[a]) _ _ _ _ ?_)
 rw[show({ s with heap:=s.heap.push { cls:=.type "dict",data:=.dict #[] } }:Shared).heap.objs.size=(qa s)+1 from jJd ..]
 refine jQ ?_
 rw[List.forIn_nil]
 exact kQ (kQ c)
def Wf(scope:Scope):Bool:=scope.names.all fun p=>scope.names.lookup p.1 == some p.2
theorem Qbe(h:Wf scope=true){k:NameKind}(a:(x,k)∈scope.names):scope.names.lookup x=some k:=by
 have:=jYc.mp h _ a
 simpa using this
def Qbf(X:Cx)(scope:Scope)(L:Addr):List (Str×Addr):=cellsFrom (L+1) scope.names (Yu X.env scope.names [])
def Xu(X:Cx)(N:List Str)(scope:Scope)(fp:List Addr)(H:Hp)(s:Shared):Cx :=
 { X with N:=N,s₀:=s,H₀:=H,env:=compEnvC scope (Qbf X scope (qa s)) (qa s) X.env,outer:=X.stack,stack:=X.stack,ex:=fp,fn:=fun y=>scope.names.lookup y == some .cell,pn:=[],xe:=fun _ _=>False }
theorem Qhu(I:Inv X pins σ H s)(m:∀b∈fp,FpOk X pins H b)(i:∀b∈fp,b<(qa s))(r:scope.kind=.function)
  (g:Wf scope=true) (d:freeOk X.env.scope scope.names=true):(Xu X N scope fp H s).Ok:=by
 have has:∀n,(n,NameKind.free)∈scope.names->∃c,X.env.cells.lookup n=some c:=fun n J=>I.ok.has n (Zx d n J)
 have a:∀x c,(Yu X.env scope.names []).lookup x=some c->X.env.cells.lookup x=some c:=Ky _ _ has fun x c e=>by simp at e
 have l:∀x c,(Yu X.env scope.names []).lookup x=some c->c<(qa s):=fun x c e=>by obtain⟨v,z⟩:=I.cell x c (a x c e);exact z.lt
 have fs:∀b∈fp,b∉frs X.stack:=fun b f z=>by
  obtain⟨_,G,w,_⟩:=m b f
  rcases kK.mp (I.stkSub b z)with e | e
  .exact G e
  .exact w e
 refine⟨I.ok.mod,r,I.ok.glob,I.ok.blt,jJ _,fun x y c F A=>?_,fun x t=>?_,fun x c h e=>?_,I.ok.hd,I.ok.frames,.inl rfl,fun b f=>⟨xZ (i b f),fun x c e=>?_⟩,
  I.bs,wZ I.ok.bsz I.sz,fun b o e f=>?_,fs,I.stack,I.stkFree⟩
 .exact Qoj scope.names ((qa s)+1) _ (fun x c e=>kQe (l x c e)) (fun x y c B u=>I.ok.inj x y c (a x c B) (a y c u)) x y c F A
 ·have p:(scope.names.map fun (n,k)=>if (k == NameKind.free && X.env.scope.kind == .function && X.env.kindOf n == some .cell) then (n,NameKind.cell) else (n,k)).lookup x=some .cell \/
    (scope.names.map fun(n,k)=>if (k == NameKind.free&&X.env.scope.kind == .function&&X.env.kindOf n == some .cell)then(n,NameKind.cell)else(n,k)).lookup x=some .free:=t
  have C:scope.names.lookup x=some .cell\/(x,NameKind.free)∈scope.names:=by
   rcases p with e | e
   .obtain⟨D,j,z | z⟩:=Yw e
    .subst z
     exact .inl j
    .obtain⟨_,z⟩:=z
     subst z
     exact .inr (lookup_mem j)
   .obtain⟨D,j,z | z⟩:=Yw e
    .subst z
     exact .inr (lookup_mem j)
    .exact nomatch z.1
  refine kXb.mp (PySem.W.cellsFrom_some scope.names _ _ ?_)
  rcases C with e | e
  .exact .inl e
  .exact .inr (Kz _ _ x (.inr e))
 .have q:scope.names.lookup x=some .cell:=by simpa using(show(scope.names.lookup x == some .cell)=true from h)
  rcases Qbd scope.names _ _ e with⟨_,z⟩ | z
  .exact Nat.le_of_succ_le z
  .rcases Qux _ _ z with z | z
   .rw[Qbe g z]at q;cases q
   .simp at z
 .rcases Qbd scope.names _ _ e with⟨_,z⟩ | z
  .exact fun y=>Y21 (i b f) (by rw[<-y];exact Nat.not_lt.mpr (Nat.le_of_succ_le z))
  .exact(m b f).2.2.2.2.1 x c (a x c z)
 .obtain⟨_,_,_,E,_⟩:=m b f
  rcases E with z | z
  .exact I.ok.noex b o e z
  .exact Y21 (xW (zQ (I.ok.bs b o e).1) z) (jZd _)
theorem Qlp{m:Z9}(I:Inv X pins σ H s)(Y:∀b∈fp,FpOk X pins H b)(K:∀b∈fp,b<(qa s))(O:scope.kind=.function)
  (g:Wf scope=true) (a:freeOk X.env.scope scope.names=true) (f:Vq X scope N cp=true)
  (F:h'.Ns (qa s) m) (w:∀b o,s.heap.get? b=some o->h'.get? b=some o) (B:∀x c,(Qbf X scope (qa s)).lookup x=some c->(Yu X.env scope.names []).lookup x=some c\/h'.IsCell c none):Inv (Xu X N scope fp H s) [] (Qax cp σ) H { s with heap:=h',toks:=t' }:=by
 have has:∀n,(n,NameKind.free)∈scope.names->∃c,X.env.cells.lookup n=some c:=fun n hn=>I.ok.has n (Zx a n hn)
 have q:∀x c,(Yu X.env scope.names []).lookup x=some c->X.env.cells.lookup x=some c:=Ky _ _ has fun x c e=>by simp at e
 exists Qhu I Y K O g a,rfl,I.bare,⟨fun b o e n _ _=>w b o e,fun b o e n _ _=>⟨o.slots,w b o e⟩,fun b o e n _=>n,fun b o e _=>⟨o,w b o e⟩,fun b Q e=>e,fun b o Q e=>e,fun b ps e=>⟨#[],by rw[Array.append_empty];exact e⟩⟩,⟨m,F,fun i x v V S W=>?_⟩,fun x c e=>?_,I.hok.fresh (jJ _),fun x c e=>?_,(fun p R=>nomatch R),I.hok.kept w,?_
 .obtain⟨j,h1,U,C⟩:=Qfo f V S
  obtain⟨m',_,T⟩:=I.loc
  have D:=Zx a x (lookup_mem C)
  obtain⟨u,r,l⟩:=T j x v h1 U (.inr D)
  rcases l with⟨l,_⟩ | ⟨_,c,P,d⟩
  .rcases D with z | z
   .exact nomatch (Y5 (l.symm.trans z))
   .exact nomatch (Y5 (l.symm.trans z))
  .obtain⟨Z,A⟩:=kXb.mp (Kz (env:=X.env) scope.names [] x (.inr (lookup_mem C)))
   have M:=q x Z A
   rw[P]at M
   cases M
   have G:(Qbf X scope (qa s)).lookup x=some c:=by
    unfold Qbf
    rw[Qok scope.names _ _ fun z=>?_]
    .exact A
    .rw[Qbe g z]at C;cases C
   exists u,r,.inr ⟨?_,c,G,?_⟩
   .rcases W with z | z | z
    .obtain⟨k0,L,y | y⟩:=Yw (show(scope.names.map fun(n,k)=>if (k == NameKind.free&&X.env.scope.kind == .function&&X.env.kindOf n == some .cell)then(n,NameKind.cell)else(n,k)).lookup x=some .local from z)
     .rw[C]at L;cases L;cases y
     .exact nomatch y.1
    .exact .inl z
    .exact .inr z
   .obtain⟨o,J,E⟩:=d
    exists o,w c o J,E
 .rcases B x c e with z | z
  .obtain⟨v,o,J,E⟩:=I.cell x c (q x c z)
   exists v,o,w c o J,E
  .exact⟨none,z⟩
 .rcases Qbd scope.names _ _ e with⟨_,z⟩ | z
  .exact I.hok.fresh (Nat.le_of_succ_le z)
  .exact I.freeC x c (q x c z)
 .show(Qax cp σ).length=N.length
  unfold Qax
  rw[jX]
  exact Qfn f
theorem Qfw{σ':St}(I:Inv X pins σ H s)(a:∀b∈fp,FpOk X pins H b)
  (J:Inv (Xu X N scope fp H s) pins' σ' H' s'):Inv X pins σ H' s' :=
 I.call' (ch:=fp) J.os J.base J.hok J.bare fun b c=>⟨(a b c).2.2.2.1,(a b c).2.1,(a b c).2.2.2.2.1,(a b c).2.2.2.2.2⟩
theorem Qfx{target:Expr}{Q:Addr->Hp->Prop}
    {tn:Nat->Heap->Prop}  {RR:Value->Addr->Result->Shared->Prop} (hc:X.calm=true) (hk:scope.kind=.function) (ah:Wf scope=true) (S:freeOk X.env.scope scope.names=true) (ag:Vq X scope N cp=true)
  (hg:∀fp H s,PG (Xu X N scope fp H s) target g) (ht:∀fp H s,PF (Xu X N scope fp H s) ifs tt) (he:∀fp H s,PE (Xu X N scope fp H s) elt te)
  (I:Inv X pins σ H s) (T:Turn X.prog X.w X.K target J fp it tn) (st:tn 0 s.heap) (hf:∀b∈fp,FpOk X pins H b)
  (h:∀D,H D=none->LcW J D (Qax cp σ) H g tt te Q)
  (al:∀D C s' H' m,Inv X pins σ H' s'->FpOk X pins H' C->s'.heap.Ns C m->Q D H'->RR (.ref D) C (.ok .next) s') :
  qd X X.A (newList []) (fun acc s3=>qd X X.A (newFunctionEnv scope X.env.globals (Yu X.env scope.names []) [] X.env.qual none .none (some X.env)) (fun cenv s4=>
   codeAny (model X.prog X.w) X.A (.compStart (.ListComp elt [⟨target,iter,ifs,0⟩] scope pos) 0 (.ref it) acc { cenv with scope:=relabel scope X.env }) (RR acc cenv.locals) s4) E s3) E s:=by
 have ac:∀b∈fp,b<(qa s):=fun b j=>by
  obtain⟨o,e,_⟩:=T.obj _ _ st b j
  exact zQ e
 refine Y26 (Qlo ?_)
 have hD:H (qa s)=none:=I.hok.fresh (jJ _)
 have I3:Inv X pins σ (upd H (qa s) (.lst [])) { s with heap:=s.heap.push { cls:=.type "list",dict:=none,data:=.seq ([]:List Value).toArray } } :=
  I.laid (t':=s.toks) (fun b u e=>jW _ e) (jJ _) ⟨wJ _,[],0,.nil,yJ _ rfl⟩
 have O:∀b∈fp,FpOk X pins (upd H (qa s) (.lst [])) b:=fun b j=>⟨by rw[Qj (xZ (ac b j))];exact(hf b j).1,(hf b j).2⟩
 have z:∀b∈fp,b<(s.heap.push { cls:=.type "list",dict:=none,data:=.seq ([]:List Value).toArray }).objs.size:=fun b j=>by rw[jJd];exact kQe (ac b j)
 generalize an:s.heap.push { cls:=.type "list",dict:=none,data:=.seq ([]:List Value).toArray }=H2 at I3 z⊢
 generalize Z:({ s with heap:=H2 }:Shared)=s3 at I3
 have f:s3.heap=H2:=by rw[<-Z]
 have G:(pushCells (H2.push { cls:=.type "dict",data:=.dict #[] }) scope.names).Ns H2.objs.size (fun _=>none):=(Heap.Ns.new H2 (.type "dict")).keeps (pushCells_keeps _ _)
 have M:∀x c,(Qbf X scope (qa s3)).lookup x=some c->(Yu X.env scope.names []).lookup x=some c\/(pushCells (H2.push { cls:=.type "dict",data:=.dict #[] }) scope.names).IsCell c none:=fun x c e=>by
  rw[f]at e
  exact Qsj scope.names (H2.push { cls:=.type "dict",data:=.dict #[] }) _ (by rw[jJd];exact e)
 have l:∀b o,s3.heap.get? b=some o->(pushCells (H2.push { cls:=.type "dict",data:=.dict #[] }) scope.names).get? b=some o:=fun b o e=>by
  rw[f]at e
  exact pushCells_keeps _ _ _ _ (jW _ e)
 generalize ao:pushCells (H2.push { cls:=.type "dict",data:=.dict #[] }) scope.names=h1 at G M l
 have J0:Inv (Xu X N scope fp (upd H (qa s) (.lst [])) s3) [] (Qax cp σ) (upd H (qa s) (.lst [])) { s3 with heap:=h1,toks:=s.toks } :=
  Qlp I3 O (by rw[f];exact z) hk ah S ag (by rw[f];exact G) l M
 have ab:tn 0 h1:=T.keep _ _ _ st fun b j o e=>l b o (by rw[f,<-an];exact jW _ e)
 obtain⟨W,⟨m0,w0⟩,V⟩:=h (qa s) hD
 have k:∀{H':Hp},(∀b∈fp,H' b=none)->∀b∈fp,FpOk (Xu X N scope fp (upd H (qa s) (.lst [])) s3) [] H' b:=fun{H'} hn b j=>
  ⟨hn b j,(J0.ok.exf b j).1,J0.ok.exfs b j,.inl j,(J0.ok.exf b j).2,fun p hp=>nomatch hp⟩
 have B:codeAny (model X.prog X.w) X.A (.compLoop (.ListComp elt [⟨target,iter,ifs,0⟩] scope pos) 0 (.ref it) (.ref (qa s)) (compEnvC scope (Qbf X scope H2.objs.size) H2.objs.size X.env))
   (RR (.ref (qa s)) H2.objs.size) { s3 with heap:=h1,toks:=s.toks }:=by
  have F:compEnvC scope (Qbf X scope H2.objs.size) H2.objs.size X.env=(Xu X N scope fp (upd H (qa s) (.lst [])) s3).env:=by
   rw[<-f];rfl
  rw[F]
  refine Qfm (fun n s'=>∃i R U H',Inv (Xu X N scope fp (upd H (qa s) (.lst [])) s3) [] R H' s'/\tn i s'.heap/\(∀b∈fp,H' b=none)/\W i n R U H') ?_ m0 ⟨0,Qax cp σ,[],_,J0,ab,fun b j=>(O b j).1,w0⟩
  rintro n s4 ⟨i,R,U,H4,I4,af,ae,w4⟩
  obtain⟨av,hh⟩:=V i n R U H4 w4
  rcases hh with⟨ad,qn⟩ | ⟨go,aa,N1,N2,aj,ar,step⟩
  .refine thn (T.done (Xu X N scope fp (upd H (qa s) (.lst [])) s3) rfl rfl rfl hc i [] s4 R H4 _ I4 (k ae) af ad) fun r s5 a=>?_
   obtain⟨hr,I5⟩:=a
   subst hr
   obtain⟨m,Y,_⟩:=I5.loc
   have e5:H2.objs.size=(Xu X N scope fp (upd H (qa s) (.lst [])) s3).env.locals:=by rw[<-F];rfl
   refine al _ _ s5 H4 m (Qfw I3 O I5) ?_ (by rw[e5];exact Y) qn
   exact I3.fpOk (by rw[f];exact jJ _) (by rw[e5];exact I5.free)
  .refine thn (T.item (Xu X N scope fp (upd H (qa s) (.lst [])) s3) rfl rfl rfl hc i [] s4 R H4 _ I4 (k ae) af go) fun r s5 a=>?_
   obtain⟨u,hr,h5⟩:=a
   subst hr
   refine thn h5 fun _ s6 a=>?_
   obtain⟨x,H6,I6,r6,y6,P,aq⟩:=a
   have am:=I6.pinned (k aq) (T.obj _ _ P)
   refine thn (hg fp _ _ _ s6 R H6 x u _ am r6 (step x H6 y6)) fun _ s7 a=>?_
   obtain⟨q,H7,I7,q7⟩:=a
   refine thn (ht fp _ _ _ s7 q H7 _ I7 q7) fun ok s8 a=>?_
   obtain⟨H8,I8,q8⟩:=a
   have L:∀{σ':St} {H':Hp} {s':Shared},Inv (Xu X N scope fp (upd H (qa s) (.lst [])) s3) ([]++Qfc fp s6.heap) σ' H' s'->Inv (Xu X N scope fp (upd H (qa s) (.lst [])) s3) [] σ' H' s'/\tn (i+1) s'.heap/\∀b∈fp,H' b=none:=fun{σ' H' s'} I'=>by
    exists I'.unpinned,T.keep _ _ _ P fun b j o e=>(I'.pin (b,o) (yV _ (yV _ (Ki j e)))).1,fun b j=>?_
    obtain⟨o,e,d⟩:=T.obj _ _ P b j
    exact(I'.pin (b,o) (yV _ (yV _ (Ki j e)))).2.1
   cases ok with
   |false=>
    rw[Y20 yY]at q8⊢
    obtain⟨m',Y,w8⟩:=ar _ _ q8
    obtain⟨b1,b2,b3⟩:=L I8
    exists m',Y,i+1,q,U,H8,b1,b2,b3,w8
   |true=>
    rw[Y22 rfl]at q8⊢
    refine thn (he fp _ _ _ s8 q H8 _ I8 q8) fun y s9 a=>?_
    obtain⟨v,H9,I9,r9,ap,n9⟩:=a
    obtain⟨m',Y,w9⟩:=aj _ _ _ n9
    refine thn (Xq _ s9 q H9 (.ref (qa s)) [v] (.ref (qa s)) [y] (fun _ H'=>H'=upd H9 (qa s) (.lst (U++[v]))) I9 rfl (.cons r9 .nil) ⟨_,U,v,rfl,rfl,ap,aa,rfl⟩) fun _ aw a=>?_
    obtain⟨_,au,ak,_,ai⟩:=a
    subst ai
    obtain⟨b1,b2,b3⟩:=L ak
    exists m',Y,i+1,q,_,_,b1,b2,b3,w9
 subst Z
 subst ao
 exact codeAny_compStart_list B (T.self _ 0 _ _ _ ab B)
theorem Yh{target:Expr}(N:List Str)(cp:List (Option Nat)){wi:TI}(y:X.calm=true)(E:PI X target iter wi)
  (v:∀fp H s,PG (Xu X N scope fp H s) target g) (w:∀fp H s,PF (Xu X N scope fp H s) ifs tt) (he:∀fp H s,PE (Xu X N scope fp H s) elt te)
  (u:qb (scope.kind=.function)) (j:qb (Wf scope=true)) (a:qb (freeOk X.env.scope scope.names=true)) (i:qb (Vq X scope N cp=true))
  (d:qb ((scope.names.all fun p=>p.2 != .local||scope.names.lookup p.1 == some .local)=true)) (L:autoParam (∀x,foldedSetIterable iter X.env x=pure x) J4._auto_1) :
  PE X (.ListComp elt [⟨target,iter,ifs,0⟩] scope pos) (fun σ H Q=>tLC cp wi g tt te σ H fun D H'=>Q (.ref D) H'):=by
 intro k s σ H Q I h
 rw[eval_ListComp]
 have has:∀n,(n,NameKind.free)∈scope.names->∃c,X.env.cells.lookup n=some c:=fun n W=>I.ok.has n (Zx a n W)
 refine wpAny_comprehension_free (use:=none) rfl L (Jw has) u (fun x A M=>?_) (thn (E k s σ H _ I h) fun xv s1 U=>thn U fun G s2 R=>?_)
 .have:=jYc.mp d x A
  simp only[yXd,bne_iff_ne,beq_iff_eq]at this
  exact this.resolve_left fun z=>z M
 .obtain⟨it,fp,Z,J,H2,e,O,T,r,P,B⟩:=R
  subst e
  refine Qfx (N:=N) (cp:=cp) y u j a i v w he O T r P B fun D C V H' m F f S q=>⟨m,S,fun Y l=>?_⟩
  exists .ref D,H',F.turned (t':=V.toks) (fun b o K e=>l.extBut b o K e) f.1 f.2.1 f.2.2.2.1 f.2.2.2.2.1 f.2.2.2.2.2,rfl,q
theorem Zv{target:Expr}{spos:Pos}(N:List Str)(cp:List (Option Nat)){wi:TI}(S:X.calm=true)(hN:X.N.Nodup)(K:X.N[i]?=some x)(A:Loc X.env.scope x)(V:PI X target iter wi)
  (P:∀fp H s,PG (Xu X N scope fp H s) target g) (R:∀fp H s,PF (Xu X N scope fp H s) ifs tt) (he:∀fp H s,PE (Xu X N scope fp H s) elt te)
  (B:qb (swapsWith (.ListComp elt [⟨target,iter,ifs,0⟩] scope pos) (some (.Name x px)) spos.line X.env=pure true))
  (M:qb (scope.kind=.function)) (u:qb (Wf scope=true)) (d:qb (freeOk X.env.scope scope.names=true)) (r:qb (Vq X scope N cp=true))
  (f:qb ((scope.names.all fun p=>p.2 != .local||scope.names.lookup p.1 == some .local)=true)) (hs:autoParam (∀x,foldedSetIterable iter X.env x=pure x) J4._auto_1)
  (hf:autoParam (X.fn x=true\/qh X x=some .local) J3._auto_1) :
  PS X (.Assign [.Name x px] (.ListComp elt [⟨target,iter,ifs,0⟩] scope pos) spos) (fun D σ H=>tLC cp wi g tt te σ H fun a H'=>D.nx (σ.set i (some (.ref a))) H'):=by
 intro j s σ H D I h
 have has:∀n,(n,NameKind.free)∈scope.names->∃c,X.env.cells.lookup n=some c:=fun n hn=>I.ok.has n (Zx d n hn)
 rw[exec_Assign_Name_used _ _ _ _ B]
 refine jQ (Y62 (jQ ?_))
 show wpAny _ _ (do let _ ← comprehension (.ListComp elt [⟨target,iter,ifs,0⟩] scope pos) scope X.env _ (newList []) false (eval iter X.env) (some (assign (.Name x px) X.env))) _ _ s
 refine jQ (Y29 (wpAny_comprehension_free (use:=some (assign (.Name x px) X.env)) (Q:=fun _ L=>SP X j D .next L) rfl hs (Jw has) M (fun x A hl=>?_)
  (thn (V j s σ H _ I h) fun xv s1 h1=>thn h1 fun Y s2 h2=>?_)) (fun _ L hq=>kQ (kQ hq)) fun _ _ e=>e)
 .have:=jYc.mp f x A
  simp only[yXd,bne_iff_ne,beq_iff_eq]at this
  exact this.resolve_left fun z=>z hl
 .obtain⟨it,fp,tn,J,H2,e,I2,T,G,f2,U⟩:=h2
  subst e
  refine Qfx (N:=N) (cp:=cp) S M u d r P R he I2 T G f2 U fun O C L H' m W l hm q=>?_
  show wpAny _ _ (assign (.Name x px) X.env (.ref O)) _ _ _
  refine wpAny_assign_Name (Qfb W hN K A (v:=.ref O) rfl (fun E y k=>?_) hf)
  obtain⟨a,k,ha⟩:=k
  have F:C≠a:=by
   rcases ha with e | e
   .rw[e];exact l.2.1
   .exact fun z=>l.2.2.2.2.1 x a e z.symm
  exists m,hm.sameBut k F,fun h' w=>?_
  exists _,H',y.turned (t':=E.toks) (fun b o Z e=>w.extBut b o Z e) l.1 l.2.1 l.2.2.2.1 l.2.2.2.2.1 l.2.2.2.2.2,q
def rCatG(K:Fg):R2:=fun x y H Q=>∃a b xs ys,x=.ref a/\y=.ref b/\SqT K H a xs/\SqT K H b ys/\ys≠[]/\xs.length+ys.length<=sizeLine/\∀(p:Addr) (H':Hp),Same H H'->SqT K H' p (xs++ys)->Q (.ref p) H'
theorem Qwn:OpR X (binaryOp .Add) (rCatG X.K):=by
 intro d s R H x y v u Q I C m h
 obtain⟨a,b,t,V,rfl,rfl,A,j,D,S,q⟩:=h
 by_cases r:t=[]
 .subst r
  cases C
  cases m
  obtain⟨i,E,M,_⟩:=I.tuple A
  obtain⟨e,Y,P,_⟩:=I.tuple j
  have J:i=[]:=E.nil_iff.mpr rfl
  subst J
  obtain⟨⟨W,O,G,k⟩,B,o,n,w⟩:=id M
  obtain⟨⟨Z,U,N,l⟩,g,c,T,f⟩:=id P
  simp only at o w c f
  subst o w c f
  exact concat_meets ⟨_,B,rfl⟩ ⟨_,g,rfl⟩ noFill_tuple_add seq_tuple_add PySem.F.slot_tuple_add PySem.F.entry_tuple_add (PySem.F.args_tuple_add_2 _ _) (tuple_addW0 a b ([]:List Value).toArray e.toArray n T O U k l (by simp)) ⟨B,g,⟨.ref b,H,I,rfl,q b H (Same.refl H) j⟩⟩
 .exact Qds d s R H (.ref a) (.ref b) v u Q I C m ⟨a,b,t,V,rfl,rfl,A,j,r,S,fun z=>Y21 z D,fun _ p L=>q p _ (Qd L _) (Xb Qc)⟩
theorem Qsk(a:X.K=K):OpR X (binaryOp .Add) (rCatG K):=by subst a;exact Qwn
theorem Qsl{l:Expr}{tl:TE}(a:X.K=K)(b:PE X l tl):PI X tg l (iList K tl):=by subst a;exact Xd b
end L2
namespace L2
open PySem PySem.Spec PyProof.Rows PySem.W
structure Tab(w:World)(K:Frag)(mg:Z9)(x:Str)(a:Addr)(f:Z9):Prop where
 bound:mg x=some (.ref a)
 map:∀(P:Program) (h:Heap),K.In h->h.MapOf (strKind P w) a f
 low:(a == sysModules)=false
theorem tab_mk{w:World}{K:Frag}{es:Array DictEntry}{n:Nat}(d:mg x=some (.ref a))(b:K.lookup a=some ⟨.type "dict",none,.dict es n,#[]⟩)(c:KeysLit w.params es.toList)(lo:(a == sysModules)=false) :
  Tab w K mg x a (fun k=>findBy Value.isStrOf es k):=⟨d,fun P h X=>mapOf_K (prog:=P) X b c,lo⟩
def rTab(a:Addr)(f:Z9):R2:=fun x y H Q=>∃s v z,x=.ref a/\y=.str s/\f s=some v/\RelV z v/\Q z H
theorem ix_tab{f:Z9}(T:Tab X.w X.K X.mg x a f):IxR X (rTab a f):=by
 intro b c d s m H x y v u Q I g i h j
 obtain⟨z,n,r,rfl,rfl,k,l,q⟩:=h
 cases g
 obtain⟨t,rfl⟩:=i
 have e:=T.map X.prog _ I.kIn
 exact tail_any e.typeIs slot_dict_getitem.lookup (wpAny_getItem_of (strKind_is X.prog X.w z t) e k ⟨r,H,I.tok _,l,q⟩) j
theorem Quy:bootBuiltins "str"=some (.type "str"):=Dk
end L2
namespace HT
open PySem PySem.Spec PyProof.Rows
section
variable{w:World}
theorem getItem_tuple_whole{t sl:Addr}{items:Array Value}{Q:VP}(b:IsTup s.heap t items)(g:s.heap.IsSliceOf sl vl vu .none)(pl:IsPart vl lo)(k:IsPart vu hi)
  (f:sIx items.size 0 lo=0/\sIx items.size items.size hi=items.size) (h:Q (.ref t) s):qe prog w A (getItem (.ref t) (.ref sl)) Q E s:=by
 obtain⟨i,e,c,j⟩:=id g
 have d:s.TypeIs (.ref sl) "slice":=⟨i,e,c⟩
 unfold getItem
 try with_reducible refine Y30 ?_
 first | refine jQ (kQ ?_) | skip
 refine jQ (wpAny_sequenceKey b.typeIs Dc ?_)
 refine jQ (wpAny_callSpecial?_slot (name:=Str.ofString "__getitem__") b.typeIs Y44
  (Y25 Y44 b.typeIs entry_tuple_getitem ?_ (args_tuple_getitem _ _)))
 show wpAny _ _ (Builtin.Tuple.tupleItemsOf (.ref t) >>= _) _ _ s
 refine jQ (tupleItemsOf_ b ?_)
 refine jQ (Y40 d ?_)
 rw[Y22 Dc]
 refine jQ (Jv g pl k ?_)
 have a:((((sIx items.size 0 lo:Nat):Int) == 0&&(1:Int) == 1&&(sIx items.size items.size hi-sIx items.size 0 lo) == items.size)=true):=by
  rw[f.1,f.2]
  simp
 show wpAny _ _ (if (((sIx items.size 0 lo:Nat):Int) == 0&&(1:Int) == 1&&(sIx items.size items.size hi-sIx items.size 0 lo) == items.size)=true then _ else _) _ _ s
 rw[Y22 a]
 unfold Builtin.Tuple.tupleIsExact
 refine jQ (jQ (Y40 b.typeIs (kQ ?_)))
 rw[Y22 Dc]
 refine jQ (Y58 ?_)
 first
  |exact kQ ⟨_,rfl,kQ h⟩
  |exact jQ (kQ ⟨_,rfl,kQ h⟩)
  |exact jQ (kQ (kQ ⟨_,rfl,kQ h⟩))
end
end HT
namespace L2
open PySem PySem.Spec PySem.W PyProof.Rows
open PySem.SeqAt
def rSlG(K:Fg):V->Option Int->Option Int->Hp->VK->Prop:=fun x lo hi H Q=>∃a xs,x=.ref a/\SqT K H a xs/\∀p H',Same H H'->SqT K H' p (cutV xs lo hi)->Q (.ref p) H'
theorem Qwo:SlR X (rSlG X.K):=by
 intro d s z H x v A u k j y Q I o m n t h
 obtain⟨a,b,rfl,i,q⟩:=h
 by_cases f:HT.sIx b.length 0 k=0/\HT.sIx b.length b.length j=b.length
 .have e:cutV b k j=b:=by unfold cutV;rw[f.1,f.2];simp
  rw[e]at q
  cases o
  obtain⟨g,r,l,B⟩:=I.tuple i
  have c:g.toArray.size=b.length:=by rw[kX];exact r.length.symm
  exists "tuple",_,PyProof.Rows.slot_tuple_getitem.lookup,l.typeIs,?_
  exact HT.getItem_tuple_whole l m n t (by rw[c];exact f) ⟨.ref a,H,I,rfl,q a H (Same.refl H) i⟩
 .exact Qjb d s z H (.ref a) v A u k j y Q I o m n t ⟨a,b,rfl,i,f,fun p w=>q p _ (Qd w _) (Xb Qc)⟩
theorem Qsm(a:X.K=K):SlR X (rSlG K):=by subst a;exact Qwo
end L2
namespace L2
open PySem
@[irreducible] def QE (X:Cx) (e:Expr) (t:TE):Prop:=PE X e t
@[irreducible] def QA (X:Cx) (es:List Expr) (t:TA):Prop:=PA X es t
@[irreducible] def QS (X:Cx) (st:Stmt) (t:TS):Prop:=PS X st t
@[irreducible] def QSs (X:Cx) (st:List Stmt) (t:TS):Prop:=PSs X st t
theorem QE.of{t:TE}(h:PE X e t):QE X e t:=by unfold QE;exact h
theorem QE.pe{t:TE}(h:QE X e t):PE X e t:=by unfold QE at h;exact h
theorem QA.of{t:TA}(h:PA X es t):QA X es t:=by unfold QA;exact h
theorem QA.pa{t:TA}(h:QA X es t):PA X es t:=by unfold QA at h;exact h
theorem QS.of{t:TS}(h:PS X st t):QS X st t:=by unfold QS;exact h
theorem QS.ps{t:TS}(h:QS X st t):PS X st t:=by unfold QS at h;exact h
theorem QSs.of{st:List Stmt}{t:TS}(h:PSs X st t):QSs X st t:=by unfold QSs;exact h
theorem QSs.pss{st:List Stmt}{t:TS}(h:QSs X st t):PSs X st t:=by unfold QSs at h;exact h
theorem qa_nil:QA X [] tNil:=.of Qf
theorem qe_lst{t:TA}(h:QA X es t):QE X (.List es pos) (tLst t):=.of (Xg h.pa)
theorem Qol:QSs X [] tNext:=.of Qv
theorem Zj{rest:List Stmt}{t u:TS}(b:QS X st t)(a:QSs X rest u):QSs X (st::rest) (tSeq t u):=.of (Qg b.ps a.pss)
theorem Wg{t:TS}(a:QS X st t):QSs X [st] t:=.of (Qi a.ps)
theorem Qbg(b:X.N.Nodup)(f:X.N[i]?=some x)(d:Loc X.env.scope x)(he:QE X e te)(a:qb (swapsWith e (some (.Name x pos')) pos.line X.env=pure false))(c:autoParam (X.fn x=true\/qh X x=some .local) J3._auto_1) :
  QS X (.Assign [.Name x pos'] e pos) (tAsg te (Vl i)):=.of (Qo b f d he.pe a c)
theorem qs_asg(he:QE X e te)(a:PG X tg g)(d:qb (swapsWithSole [tg] e pos.line X.env=pure false))(c:qb (swappedStores [tg] e X.env=pure none))
  (b:qb ((assignEach [tg] X.env).map (·.2)=[assign tg X.env])):QS X (.Assign [tg] e pos) (tAsg te g):=.of (Qix he.pe a d c b)
theorem qs_ret(he:QE X e te):QS X (.Return (some e) pos) (tRet te):=.of (Qx he.pe)
theorem qs_if{c:Expr}{a b:List Stmt}{t u:TS}{tc:TT}(f:PT X c tc)(d:QSs X a t)(e:QSs X b u):QS X (.If c a b pos) (tIfS tc t u):=.of (Xp f d.pss e.pss)
theorem lenS{α:Type}{l:List α}{n:Nat}(h:l.length=n+1):∃a t,l=a::t/\t.length=n:=by
 cases l with
 |nil=>exact Y21 h (Nat.succ_ne_zero n).symm
 |cons a t=>exists a,t,rfl,Nat.succ.inj h
theorem len1{α:Type}{l:List α}(h:l.length=1):∃a,l=[a]:=by
 obtain⟨a,t,rfl,b⟩:=lenS h
 exists a,congrArg _ (List.length_eq_zero_iff.mp b)
theorem len2{α:Type}{l:List α}(h:l.length=2):∃a b,l=[a,b]:=by
 obtain⟨a,t,rfl,c⟩:=lenS h
 obtain⟨b,rfl⟩:=len1 c
 exists a,b,rfl
theorem len3{α:Type}{l:List α}(h:l.length=3):∃a b c,l=[a,b,c]:=by
 obtain⟨a,t,rfl,d⟩:=lenS h
 obtain⟨b,c,rfl⟩:=len2 d
 exists a,b,c,rfl
theorem len4{α:Type}{l:List α}(h:l.length=4):∃a b c d,l=[a,b,c,d]:=by
 obtain⟨a,t,rfl,e⟩:=lenS h
 obtain⟨b,c,d,rfl⟩:=len3 e
 exists a,b,c,d,rfl
theorem len5{α:Type}{l:List α}(h:l.length=5):∃a b c d e,l=[a,b,c,d,e]:=by
 obtain⟨a,t,rfl,f⟩:=lenS h
 obtain⟨b,c,d,e,rfl⟩:=len4 f
 exists a,b,c,d,e,rfl
theorem bind1{F:List Value->Prop}(h:∀a,F [a]):∀us:List Value,us.length=1->F us:=fun us b=>by
 obtain⟨a,rfl⟩:=len1 b
 exact h a
theorem Ji{F:List Value->Prop}(h:∀a b,F [a,b]):∀us:List Value,us.length=2->F us:=fun us c=>by
 obtain⟨a,b,rfl⟩:=len2 c
 exact h a b
theorem Wh{F:List Value->Prop}(h:∀a b c,F [a,b,c]):∀us:List Value,us.length=3->F us:=fun us d=>by
 obtain⟨a,b,c,rfl⟩:=len3 d
 exact h a b c
theorem Qsn{F:List Value->Prop}(h:∀a b c d,F [a,b,c,d]):∀us:List Value,us.length=4->F us:=fun us e=>by
 obtain⟨a,b,c,d,rfl⟩:=len4 e
 exact h a b c d
theorem bind5{F:List Value->Prop}(h:∀a b c d e,F [a,b,c,d,e]):∀us:List Value,us.length=5->F us:=fun us f=>by
 obtain⟨a,b,c,d,e,rfl⟩:=len5 f
 exact h a b c d e
theorem Qea(h:let r3:TS:=s3;let r2:TS:=tSeq s2 r3;tSeq s1 r2 D σ H):(tSeq s1 (tSeq s2 (s3))) D σ H:=h
theorem Km(h:let r4:TS:=s4;let r3:TS:=tSeq s3 r4;let r2:TS:=tSeq s2 r3;tSeq s1 r2 D σ H):(tSeq s1 (tSeq s2 (tSeq s3 (s4)))) D σ H:=h
theorem Qae(h:let r5:TS:=s5;let r4:TS:=tSeq s4 r5;let r3:TS:=tSeq s3 r4;let r2:TS:=tSeq s2 r3;tSeq s1 r2 D σ H):(tSeq s1 (tSeq s2 (tSeq s3 (tSeq s4 (s5))))) D σ H:=h
theorem Qjp(h:let r6:TS:=s6;let r5:TS:=tSeq s5 r6;let r4:TS:=tSeq s4 r5;let r3:TS:=tSeq s3 r4;let r2:TS:=tSeq s2 r3;tSeq s1 r2 D σ H):(tSeq s1 (tSeq s2 (tSeq s3 (tSeq s4 (tSeq s5 (s6)))))) D σ H:=h
theorem Qso(h:let r7:TS:=s7;let r6:TS:=tSeq s6 r7;let r5:TS:=tSeq s5 r6;let r4:TS:=tSeq s4 r5;let r3:TS:=tSeq s3 r4;let r2:TS:=tSeq s2 r3;tSeq s1 r2 D σ H):(tSeq s1 (tSeq s2 (tSeq s3 (tSeq s4 (tSeq s5 (tSeq s6 (s7))))))) D σ H:=h
theorem Qom(h:let r11:TS:=s11;let r10:TS:=tSeq s10 r11;let r9:TS:=tSeq s9 r10;let r8:TS:=tSeq s8 r9;let r7:TS:=tSeq s7 r8;let r6:TS:=tSeq s6 r7;let r5:TS:=tSeq s5 r6;let r4:TS:=tSeq s4 r5;let r3:TS:=tSeq s3 r4;let r2:TS:=tSeq s2 r3;tSeq s1 r2 D σ H):(tSeq s1 (tSeq s2 (tSeq s3 (tSeq s4 (tSeq s5 (tSeq s6 (tSeq s7 (tSeq s8 (tSeq s9 (tSeq s10 (s11))))))))))) D σ H:=h
theorem Qfy(h:let r12:TS:=s12;let r11:TS:=tSeq s11 r12;let r10:TS:=tSeq s10 r11;let r9:TS:=tSeq s9 r10;let r8:TS:=tSeq s8 r9;let r7:TS:=tSeq s7 r8;let r6:TS:=tSeq s6 r7;let r5:TS:=tSeq s5 r6;let r4:TS:=tSeq s4 r5;let r3:TS:=tSeq s3 r4;let r2:TS:=tSeq s2 r3;tSeq s1 r2 D σ H):(tSeq s1 (tSeq s2 (tSeq s3 (tSeq s4 (tSeq s5 (tSeq s6 (tSeq s7 (tSeq s8 (tSeq s9 (tSeq s10 (tSeq s11 (s12)))))))))))) D σ H:=h
theorem Qon{s13 s14:TS}(h:let r14:TS:=s14;let r13:TS:=tSeq s13 r14;let r12:TS:=tSeq s12 r13;let r11:TS:=tSeq s11 r12;let r10:TS:=tSeq s10 r11;let r9:TS:=tSeq s9 r10;let r8:TS:=tSeq s8 r9;let r7:TS:=tSeq s7 r8;let r6:TS:=tSeq s6 r7;let r5:TS:=tSeq s5 r6;let r4:TS:=tSeq s4 r5;let r3:TS:=tSeq s3 r4;let r2:TS:=tSeq s2 r3;tSeq s1 r2 D σ H):(tSeq s1 (tSeq s2 (tSeq s3 (tSeq s4 (tSeq s5 (tSeq s6 (tSeq s7 (tSeq s8 (tSeq s9 (tSeq s10 (tSeq s11 (tSeq s12 (tSeq s13 (s14)))))))))))))) D σ H:=h
end L2
local macro_rules|`(tactic|exists"z")=>`(tactic|have h:=L2.X0 2000000)
namespace Nb
open PySem L2
def top(i:Nat):Stmt:=PySem.Challenge.pw_nonebetter_k96_no_pictures.main.body.getD i (.Pass ⟨0,0,0,0⟩)
abbrev Qjq:Stmt:=top 33
abbrev Qjr:Stmt:=top 34
abbrev Qjs:Stmt:=top 32
def NmOk(x:Str):Prop:=1<=x.length/\x.length<=12/\∀c∈x.cps.toList,97<=c/\c<=122
inductive BR where
 |days (n:Int)
 |bench (b:Str) (r:Int)
 |shut (b:Str) (f t:Int)
 |store (s:Str) (m f:Int)
 |work (w:Str)
 |way (w v:Str) (l c:Int)
 |use (k:Fin 3) (w v t:Str) (m:Int)
 |after (w x:Str) (g:Int)
 |late (w:Str) (d c:Int)
def useW:Fin 3->Str
 |0=>"uses"
 |1=>"takes"
 |2=>"gives"
def BR.word:BR->Str
 |.days _=>"days"
 |.bench _ _=>"bench"
 |.shut _ _ _=>"shut"
 |.store _ _ _=>"store"
 |.work _=>"work"
 |.way _ _ _ _=>"way"
 |.use k _ _ _ _=>useW k
 |.after _ _ _=>"after"
 |.late _ _ _=>"late"
def BR.names:BR->List Str
 |.days _=>[]
 |.bench b _=>[b]
 |.shut b _ _=>[b]
 |.store s _ _=>[s]
 |.work w=>[w]
 |.way w v _ _=>[w,v]
 |.use _ w v t _=>[w,v,t]
 |.after w x _=>[w,x]
 |.late w _ _=>[w]
def BR.nums:BR->List Int
 |.days n=>[n]
 |.bench _ r=>[r]
 |.shut _ f t=>[f,t]
 |.store _ m f=>[m,f]
 |.work _=>[]
 |.way _ _ l c=>[l,c]
 |.use _ _ _ _ m=>[m]
 |.after _ _ g=>[g]
 |.late _ d c=>[d,c]
def BR.key(r:BR):List Key:=inr r.word::r.names.map inr
def BR.cells(r:BR):List Key:=r.key++r.nums.map Sum.inl
def BR.own:BR->List Str
 |.work w=>[w]
 |.way w _ _ _=>[w]
 |.use _ w _ _ _=>[w]
 |.after w x _=>[w,x]
 |.late w _ _=>[w]
 |_=>[]
def BR.ok(n:Int):BR->Prop
 |.days m=>m=n
 |.bench _ r=>0<=r/\r<=99
 |.shut _ f t=>0<=f/\f<t/\t<=n
 |.store _ m f=>0<=f/\f<=m/\m<=999
 |.work _=>True
 |.way _ _ l c=>1<=l/\l<=n/\0<=c/\c<=999999
 |.use _ _ _ _ m=>1<=m/\m<=99
 |.after w x g=>w≠x/\0<=g/\g<=n
 |.late _ d c=>0<=d/\d<=n/\1<=c/\c<=999
def BR.gn(r:BR):Prop:=∀x∈r.names,NmOk x
def BR.needs:BR->List (List Key)
 |.days _=>[]
 |.bench _ _=>[[inr "days"]]
 |.shut b _ _=>[[inr "bench",inr b]]
 |.store _ _ _=>[[inr "days"]]
 |.work _=>[[inr "days"]]
 |.way w _ _ _=>[[inr "work",inr w]]
 |.use 0 w v t _=>[[inr "way",inr w,inr v],[inr "bench",inr t]]
 |.use _ w v t _=>[[inr "way",inr w,inr v],[inr "store",inr t]]
 |.after w x _=>[[inr "work",inr w],[inr "work",inr x]]
 |.late w _ _=>[[inr "work",inr w]]
def Said(S:List BR)(k:List Key):Prop:=∃q∈S,q.key=k
theorem Said.mono{S S':List BR}{k:List Key}(h:Said S k)(f:∀q∈S,q∈S'):Said S' k:=by
 obtain⟨q,a,e⟩:=h
 exists q,f q a,e
def Ahead:List BR->List BR->Prop
 |_,[]=>True
 |S,r::T=>(∀k∈r.needs,Said S k)/\Ahead (S++[r]) T
theorem Ahead.mono:∀{T S S':List BR},Ahead S T->(∀q∈S,q∈S')->Ahead S' T
 |[],_,_,_,_=>True.intro
 |r::T,S,S',h,f=>⟨fun k a=>(h.1 k a).mono f,Ahead.mono h.2 fun q b=>by
  rcases kW.mp b with z | z
  .exact zY _ (f q z)
  .exact yV _ z⟩
theorem Ahead.app:∀{T U S:List BR},Ahead S T->Ahead (S++T) U->Ahead S (T++U)
 |[],U,S,_,h=>by rw[xV]at h;exact h
 |r::T,U,S,h,h2=>⟨h.1,Ahead.app h.2 (by rw[xY];exact h2)⟩
theorem Ahead.fst:∀{T U S:List BR},Ahead S (T++U)->Ahead S T
 |[],_,_,_=>True.intro
 |_::_,_,_,h=>⟨h.1,Ahead.fst h.2⟩
theorem Ahead.snd:∀{T U S:List BR},Ahead S (T++U)->Ahead (S++T) U
 |[],U,S,h=>by rw[xV];exact h
 |r::T,U,S,h=>by
  have a:=Ahead.snd h.2
  rw[xY]at a
  exact a
theorem Ahead.one{S:List BR}{r:BR}(h:∀k∈r.needs,Said S k):Ahead S [r]:=⟨h,True.intro⟩
theorem Ahead.ins{A C:List BR}{r:BR}(h:Ahead [] (A++C))(b:∀k∈r.needs,Said A k):Ahead [] (A++[r]++C) :=
 (h.fst.app (Ahead.one (by rw[yXf];exact b))).app (h.snd.mono fun q a=>by rw[yXf]at a⊢;exact zY _ a)
def Apart(r q:BR):Prop:=r.word="shut"\/q.word="shut"\/r.key≠q.key
theorem Apart.symm{r q:BR}(h:Apart r q):Apart q r:=by
 rcases h with h | h | h
 .exact .inr (.inl h)
 .exact .inl h
 .exact .inr (.inr h.symm)
theorem Qcv{r q:BR}(h:r.word≠q.word):Apart r q:=.inr (.inr fun z=>h (by injection z with a;injection a))
structure WB(n:Int)(B:List BR):Prop where
 ok:∀r∈B,r.ok n
 nd:B.Pairwise Apart
 ref:∀r∈B,∀w∈r.own,BR.work w∈B
 len:B.length<=400
 few:∃nm:List Str,nm.length<=5/\∀r∈B,∀w∈r.own,w∈nm
theorem WB.perm{B C:List BR}(h:WB n B)(p:B.Perm C):WB n C :=
 ⟨fun r a=>h.ok r (p.mem_iff.mpr a),(p.pairwise_iff Apart.symm).mp h.nd,fun r a w b=>p.mem_iff.mp (h.ref r (p.mem_iff.mpr a) w b),by rw[<-p.length_eq];exact h.len,h.few.elim fun c q=>⟨c,q.1,fun r a w b=>q.2 r (p.mem_iff.mpr a) w b⟩⟩
def BR.kind:BR->Nat
 |.days _=>0
 |.bench _ _=>1
 |.shut _ _ _=>2
 |.store _ _ _=>3
 |.work _=>4
 |.way _ _ _ _=>5
 |.use k _ _ _ _=>6+k.val
 |.after _ _ _=>9
 |.late _ _ _=>10
def wordOf:Nat->Str
 |0=>"days"
 |1=>"bench"
 |2=>"shut"
 |3=>"store"
 |4=>"work"
 |5=>"way"
 |6=>"uses"
 |7=>"takes"
 |8=>"gives"
 |9=>"after"
 |_=>"late"
theorem Wi(r:BR):r.word=wordOf r.kind:=by
 cases r with
 |use k _ _ _ _=>match k with | 0=>rfl | 1=>rfl | 2=>rfl
 |_=>rfl
theorem Qbh(r:BR):r.kind<11:=by
 cases r with
 |use k _ _ _ _=>show 6+k.val<11;lia
 |days n=>show(0:Nat)<11;decide
 |bench b r=>show(1:Nat)<11;decide
 |shut b f t=>show(2:Nat)<11;decide
 |store b m f=>show(3:Nat)<11;decide
 |work w=>show(4:Nat)<11;decide
 |way w v l c=>show(5:Nat)<11;decide
 |after w x g=>show(9:Nat)<11;decide
 |late w d c=>show(10:Nat)<11;decide
theorem Wj:∀i,i<11->∀j,j<11->wordOf i=wordOf j->i=j:=Dk
theorem Xx(r:BR){k:Nat}(a:k<11):r.word=wordOf k↔r.kind=k:=⟨fun h=>Wj _ (Qbh r) _ a (by rw[<-Wi];exact h),fun h=>by rw[Wi,h]⟩
theorem Zp{r q:BR}(h:r.kind≠q.kind):Apart r q:=Qcv fun z=>h (Wj _ (Qbh r) _ (Qbh q) (by rw[<-Wi,<-Wi];exact z))
theorem Qsp{r:BR}(h:r.kind=5):∃w v l c,r=.way w v l c:=by
 cases r with
 |way w v l c=>exists w,v,l,c,rfl
 |use k _ _ _ _=>exact Y21 (show 6+k.val=5 from h) Om
 |_=>exact nomatch h
theorem Qoo{r:BR}(h:r.kind=4):∃w,r=.work w:=by
 cases r with
 |work w=>exists w,rfl
 |use k _ _ _ _=>exact Y21 (show 6+k.val=4 from h) Om
 |_=>exact nomatch h
theorem Qlq{r:BR}(h:r.kind=9):∃w x g,r=.after w x g:=by
 cases r with
 |after w x g=>exists w,x,g,rfl
 |use k _ _ _ _=>exact Y21 (show 6+k.val=9 from h) Om
 |_=>exact nomatch h
theorem Qeb{r:BR}(h:r.word="way"):∃w v l c,r=.way w v l c:=Qsp ((Xx r (k:=5) Dc).mp h)
theorem Kc{r:BR}(h:r.word="work"):∃w,r=.work w:=Qoo ((Xx r (k:=4) Dc).mp h)
theorem Qlr{r:BR}(h:r.word="after"):∃w x g,r=.after w x g:=Qlq ((Xx r (k:=9) Dc).mp h)
def fl(x:Str):Nat:=x.cps.getD 0 0
def RowsB(H:Hp)(vs:List V)(B:List BR):Prop:=RowsL H vs (B.map BR.cells)
theorem Yl(r:BR):atI (r.cells.map kV) 0=some (.str r.word):=by cases r<;>rfl
theorem RowsB.get{B:List BR}(h:RowsB H vs B){v:V}(e:vs[i]?=some v):∃r l,B[i]?=some r/\v=.ref l/\H l=some (.lst (r.cells.map kV)):=by
 obtain⟨g,a,l,d,c⟩:=Xh h e
 rw[yZ]at a
 obtain⟨r,b,f⟩:=jZe.mp a
 exists r,l,b,d,by rw[f];exact c
theorem RowsB.imp{B:List BR}(h:RowsB H vs B)(f:∀l (r:BR),V.ref l∈vs->H l=some (.lst (r.cells.map kV))->H' l=some (.lst (r.cells.map kV))):RowsB H' vs B:=by
 unfold RowsB at h⊢
 induction B generalizing vs with
 |nil=>cases h;exact .nil
 |cons r B ih=>
  cases h with
  |cons z t=>
   obtain⟨l,e,a⟩:=z
   exact .cons ⟨l,e,f l r (by rw[e];exact jY) a⟩ (ih t fun l r b=>f l r (kJ _ b))
theorem RowsB.same{B:List BR}(h:RowsB H vs B)(s:Same H H'):RowsB H' vs B:=h.imp fun _ _ _ z=>s _ _ z
theorem RowsB.length{B:List BR}(h:RowsB H vs B):vs.length=B.length:=by
 have:=Paired.length h
 rwa [jX]at this
theorem RowsB.snoc{B:List BR}{r:BR}{l:Addr}(h:RowsB H vs B)(z:H l=some (.lst (r.cells.map kV))):RowsB H (vs++[.ref l]) (B++[r]):=by
 unfold RowsB at h⊢
 rw[yK]
 exact Paired.snoc h ⟨l,rfl,z⟩
theorem Qcw{α β:Type}{R:α->β->Prop}{xs xs':List α}{ys ys':List β}(b:Paired R xs ys)(a:Paired R xs' ys'):Paired R (xs++xs') (ys++ys'):=by
 induction b with
 |nil=>exact a
 |cons z _ ih=>exact .cons z ih
theorem RowsB.app{vs':List V}{B B':List BR}(h:RowsB H vs B)(h':RowsB H vs' B'):RowsB H (vs++vs') (B++B'):=by
 unfold RowsB at h h'⊢
 rw[yK]
 exact Qcw h h'
theorem Qbi{α β:Type}{R:α->β->Prop}:∀{xs:List α} {ys:List β} (n:Nat),Paired R xs ys->Paired R (xs.take n) (ys.take n)
 |_,_,0,_=>.nil
 |_,_,_+1,.nil=>.nil
 |_,_,n+1,.cons z t=>.cons z (Qbi n t)
theorem Qbj{α β:Type}{R:α->β->Prop}:∀{xs:List α} {ys:List β} (n:Nat),Paired R xs ys->Paired R (xs.drop n) (ys.drop n)
 |_,_,0,h=>h
 |_,_,_+1,.nil=>.nil
 |_,_,n+1,.cons _ t=>Qbj n t
theorem RowsB.take{B:List BR}(n:Nat)(h:RowsB H vs B):RowsB H (vs.take n) (B.take n):=by
 unfold RowsB at h⊢
 rw[kXe]
 exact Qbi n h
theorem RowsB.drop{H:Hp}{vs:List V}{B:List BR}(n:Nat)(h:RowsB H vs B):RowsB H (vs.drop n) (B.drop n):=by
 unfold RowsB at h⊢
 rw[List.map_drop]
 exact Qbj n h
def Qwp(ys:List V):Prop:=∀s r,ys≠V.str s::r
theorem RowsB.noRow{B:List BR}(h:RowsB H vs B):Qwp vs:=fun s r e=>by
 subst e
 obtain⟨_,_,_,e,_⟩:=h.get (i:=0) (v:=.str s) rfl
 cases e
theorem Qec(h:Qwp ys)(r:BR):r.cells.map kV≠ys:=fun e=>h r.word (r.cells.map kV).tail (by rw[<-e];cases r<;>rfl)
theorem RowsB.updL{B:List BR}{g:Addr}(h:RowsB H vs B)(a:H g=some (.lst ys))(n:Qwp ys):RowsB (upd H g (.lst zs)) vs B:=h.imp fun l r _ z=>by
 rw[Qj (Ym z a fun e=>Qec n r (HO.lst.inj e))]
 exact z
section
variable{w:World}
theorem Sc{a b:List Str}{c:Scope}(h:FnScope a b c:=by exact ⟨rfl,rfl,rfl,Dk,rfl,Dk,Dk⟩):FnScope a b c:=h
theorem scBlock:FnScope ["_law_script","_law_k","_law_cell","_law_j"] ["_law_script","_law_k"] (Qh Qjq):=Sc
theorem Qwq(F:Fn K mg "_law_block" Qjq)(M:Mg mg):Cal P w K mg base 1 "_law_block" ["_law_script","_law_k"] (Qnv K):=by
 refine Xv F scBlock (a:=fun f u A e s H o Q E B h=>?_)
 obtain⟨a,x,k,rfl,l,C,q⟩:=h
 refine⟨_,(Qg (Z4 2 scBlock.nd Qe)
  (Qg (Xp (Ql Qam (Qk Qy Qe (Qk Xf (Qk Xt (pv 1) Qe) Qe)) (Qr Qu rfl M.len Xr (Qa (pv 0) Qf)) (Qp _)) (Qi (Z4 2 scBlock.nd (Qk Qje (Qs Qn (pv 0) (Qk Qy Qe (Qk Xf (Qk Xt (pv 1) Qe) Qe))) (Qk Qmt Qe Qe)))) Qv)
  (Qg (Yb Y33 rfl (Xs rfl M.range_ (Qa (Qk Xf (pv 1) Qe) Qf)) (Z3 3 scBlock.nd) (Qi (Z4 2 scBlock.nd (Qk Qje (pv 2) Qe))))
  (Qi (Qx (pv 2)))))),?_⟩
 refine Km ?_;intros
 exists _,rfl,_,_,rfl,rfl,⟨Dc,Dc⟩,_,_,rfl,rfl,Z0,_,_,rfl,rfl,_,rfl,_,_,rfl,.inl l,_,_,rfl,rfl,_,rfl,?_
 refine ite2 (fun c=>?_) (fun c=>?_)
 .obtain⟨v,r⟩:=atNs (k:=1+k / 8 % 62) Om (kZ c)
  exists _,rfl,_,rfl,_,_,rfl,rfl,⟨Dc,Dc⟩,_,_,rfl,rfl,Z0,_,_,rfl,rfl,_,_,_,_,rfl,rfl,l,r,_,_,rfl,rfl,⟨Dc,Dc,Dc⟩,_,_,rfl,rfl,⟨Dk,Dk⟩,?_
  let j:Nat->St->Hp->Prop:=fun i b d=>d=H/\∃(z:Int) (v:Option V),b=[some (.ref a),some (.int k),some (.int z),v]
  exists _,rfl,_,_,rfl,rfl,Z0,k % 8,rfl,Om,Om,Xy (lo:=0) (n:=(k % 8).toNat) j ⟨rfl,_,_,rfl⟩ ?_ ?_
  .rintro i b d p ⟨rfl,z,v,rfl⟩
   exists _,rfl,_,_,rfl,rfl,⟨Dk,Dk⟩,rfl,_,_,rfl
  .rintro b d ⟨rfl,z,v,rfl⟩
   exists _,rfl,q z
 .let g:Nat->St->Hp->Prop:=fun i b d=>d=H/\∃(z:Int) (v:Option V),b=[some (.ref a),some (.int k),some (.int z),v]
  exists _,rfl,_,_,rfl,rfl,Z0,k % 8,rfl,Om,Om,Xy (lo:=0) (n:=(k % 8).toNat) g ⟨rfl,_,_,rfl⟩ ?_ ?_
  .rintro i b d p ⟨rfl,z,v,rfl⟩
   exists _,rfl,_,_,rfl,rfl,⟨Dk,Dk⟩,rfl,_,_,rfl
  .rintro b d ⟨rfl,z,v,rfl⟩
   exists _,rfl,q z
theorem scMixed:FnScope ["_law_script","_law_k","_law_cell","_law_number"] ["_law_script","_law_k"] (Qh Qjr):=Sc
theorem Qwr(F:Fn K mg "_law_mixed" Qjr)(M:Mg mg)(b:Cal P w K mg base 1 "_law_block" ["_law_script","_law_k"] (Qnv K)):Cal P w K mg base 2 "_law_mixed" ["_law_script","_law_k"] (Kb K):=by
 refine Xv F scMixed (a:=fun f p A j s H t Q E n h=>?_)
 obtain⟨a,ns,k,rfl,d,e,i,q⟩:=h
 refine⟨_,(Qg (Z4 2 scMixed.nd Qe)
  (Qg (Xp (Ql Qcj (Qr Qu rfl M.len Xr (Qa (pv 0) Qf)) Qe (Qp _)) (Qi (Z4 2 scMixed.nd (Qs Qn (pv 0) Qe))) Qv)
  (Qg (Xp (PW.pt (Zd (Ql Ye (Qk Xf (Qk Xt (pv 2) (Qk Qmt Qe Qe)) Qe) Qe (Qp _)) (Ys (Ql Wb (Xk b (n.mono Dc) (Qa (pv 0) (Qa (pv 1) Qf))) Qe (Qp _))))) (Qi (Qx (Qk Xf (Xk b (n.mono Dc) (Qa (pv 0) (Qa (pv 1) Qf))) Qe))) Qv)
  (Qg (Xp (Ql Qcj (Qr Qu rfl M.len Xr (Qa (pv 0) Qf)) Qe (Qp _)) (Qi (Z4 2 scMixed.nd (Qs Qn (pv 0) (Qk Xf (pv 1) (Qr (Qan rfl) rfl M.min Qnp (Qa Qe (Qa (Qr Qu rfl M.len Xr (Qa (pv 0) Qf)) Qf))))))) Qv)
  (Qg (Z4 3 scMixed.nd (Qk Qy (Qk Xf (pv 2) (Qk Qmt Qe Qe)) (Qk Zy Qe (Qk Qy (pv 1) Qe))))
  (Qg (Z4 3 scMixed.nd (Qk Qy (Qk Xf (Qk Zy (pv 3) (pv 3)) Qe) (Qk Zy Qe (pv 1))))
  (Qi (Qx (Qk Xf (Qk Zy (pv 3) (pv 3)) Qe))))))))),?_⟩
 refine Qso ?_;intros
 exists _,rfl,_,_,rfl,.inl d,_,_,rfl,rfl,_,rfl,?_
 have fin:∀x:Int,Q (.int (x % 2147483587)) H:=fun x=>q _ (jQc _ Dc) (Int.lt_trans (wQ _ Dc) Dc)
 refine ite2 (fun c=>?_) (fun c=>?_)
 .obtain⟨v,u⟩:=atNs (k:=0) (kYb 0) (kZ c)
  exists _,rfl,_,_,_,_,rfl,rfl,d,u,?_
  exists _,rfl,_,_,rfl,rfl,⟨Dc,Dc,Dc⟩,_,_,rfl,rfl,⟨Dk,Dk⟩,_,_,rfl,rfl,Z0,rfl,_,rfl,?_
  refine ite2 (fun y=>⟨_,rfl,_,rfl,a,ns,k,rfl,d,e,fun z=>⟨rfl,_,rfl,ite2 (fun r=>⟨_,rfl,_,rfl,a,ns,k,rfl,d,e,fun z=>⟨_,_,rfl,rfl,Z0,fin _⟩⟩) (fun r=>?_)⟩⟩) (fun y=>iteF ?_)
  all_goals
   exists _,rfl,_,_,rfl,.inl d,_,_,rfl,rfl,_,rfl,?_
   refine ite2 (fun g=>?_) (fun g=>Y21 c g)
   have L:(0:Int)<(((ns.map V.int).length:Nat):Int):=kZ c
   have l:(0:Int)<(if (((ns.map V.int).length:Nat):Int)<63 then(((ns.map V.int).length:Nat):Int)else 63):=by split<;>lia
   have G:(if (((ns.map V.int).length:Nat):Int)<63 then(((ns.map V.int).length:Nat):Int)else 63)<=(((ns.map V.int).length:Nat):Int):=by split<;>lia
   obtain⟨N,m⟩:=atNs (ns:=ns) (k:=k % (if (((ns.map V.int).length:Nat):Int)<63 then(((ns.map V.int).length:Nat):Int)else 63)) (jQc _ (yXa l)) (Int.lt_of_lt_of_le (wQ _ l) G)
   exists _,rfl,_,rfl,_,rfl,_,_,rfl,.inl d,_,_,rfl,_,_,rfl,rfl,l,_,_,_,_,rfl,rfl,d,m,?_
   exists _,rfl,_,_,rfl,rfl,⟨Dc,Dc,Dc⟩,_,_,rfl,rfl,Z0,_,rfl,_,_,rfl,rfl,_,_,rfl,rfl,mulC _ _ Dc Dc,_,_,rfl,rfl,?_
   exists _,rfl,_,rfl,_,_,rfl,rfl,mulA _ k e i _,_,_,rfl,rfl,Z0,_,rfl,_,_,rfl,rfl,mulC _ _ Dc Dc,_,_,rfl,rfl,?_
   exists _,rfl,_,rfl,_,_,rfl,rfl,mulB _ k e i _,_,_,rfl,rfl,Z0,fin _
 .refine⟨_,rfl,_,_,rfl,rfl,⟨Dc,Dc,Dc⟩,_,_,rfl,rfl,⟨Dk,Dk⟩,_,_,rfl,rfl,Z0,rfl,_,rfl,?_⟩
  refine iteF (iteF ?_)
  exists _,rfl,_,_,rfl,.inl d,_,_,rfl,rfl,_,rfl,?_
  refine ite2 (fun g=>Y21 g c) (fun g=>?_)
  exists _,rfl,_,_,rfl,rfl,⟨Dc,Dc,Dc⟩,_,_,rfl,rfl,Z0,_,rfl,_,_,rfl,rfl,_,_,rfl,rfl,mulC _ _ Dc Dc,_,_,rfl,rfl,?_
  exists _,rfl,_,rfl,_,_,rfl,rfl,mulA _ k e i _,_,_,rfl,rfl,Z0,_,rfl,_,_,rfl,rfl,mulC _ _ Dc Dc,_,_,rfl,rfl,?_
  exists _,rfl,_,rfl,_,_,rfl,rfl,mulB _ k e i _,_,_,rfl,rfl,Z0,fin _
theorem Qws:FnScope ["_law_found"] ["_law_found"] (Qh Qjs):=Sc
theorem Qwt(F:Fn K mg "_law_whole" Qjs)(M:Mg mg):Cal P w K mg base 1 "_law_whole" ["_law_found"] (Qnu):=by
 refine Xv F Qws (fun _ _ _ _ _ _=>bind1 (fun _=>rfl)) (fun c H Q E h=>?_) (fun f b A a s H c Q E d h=>?_)
 .obtain⟨z,rfl,_⟩:=h
  rfl
 obtain⟨z,rfl,q⟩:=h
 exists _,(Qi (Qx (Vk (Qr Qjd rfl M.isinstance Ya (Qa (pv 0) (Qa (Qhk M.int_ Qnr) Qf))) (Ws (Quo (Qr Qjd rfl M.isinstance Ya (Qa (pv 0) (Qa (Qhk M.bool_ Qns) Qf)))))))),?_
 exists _,rfl,_,"int",true,rfl,.inl ⟨rfl,rfl⟩,true,rfl,?_
 refine iteT ⟨_,rfl,_,"bool",false,rfl,.inr (.inl ⟨rfl,rfl⟩),false,rfl,q⟩
abbrev Qsq:Stmt:=top 35
theorem fl_app{y:Str}(h:1<=x.length):fl (x++y)=fl x:=by
 show(x.cps++y.cps).getD 0 0=x.cps.getD 0 0
 have a:0<x.cps.size:=h
 rw[Array.getD_eq_getD_getElem?,Array.getD_eq_getD_getElem?,Array.getElem?_append_left a]
theorem len_app(x y:Str):(x++y).length=x.length+y.length:=by
 show(x.cps++y.cps).size=_
 rw[kKe]
 rfl
theorem atS(d:0<=z)(f:z<(x.length:Nat)):∃c,atI x.cps.toList z=some c:=by
 have e:z=((z.toNat:Nat):Int):=Om
 have a:z.toNat<x.cps.toList.length:=by
  have b:x.length=x.cps.toList.length:=by show x.cps.size=_;exact jXa.symm
  lia
 exists _,by rw[e];exact Qat (gE a)
theorem Qwu{f:Int}(b:0<=f)(a:f<8):atI ("abcdefgh":Str).cps.toList f=some (97+f.toNat):=by
 rcases(show f=0\/f=1\/f=2\/f=3\/f=4\/f=5\/f=6\/f=7 by lia)with h | h | h | h | h | h | h | h<;>(subst h;decide +kernel)
theorem let26:∀c∈("abcdefghijklmnopqrstuvwxyz":Str).cps.toList,97<=c/\c<=122:=Dk
theorem Qwv{α:Type}{xs:List α}{i:Int}{v:α}(h:atI xs i=some v):v∈xs:=by
 obtain⟨j,_,a,_⟩:=Qdt h
 exact kY a
theorem Qww(x y:Str):(x++y).cps.toList=x.cps.toList++y.cps.toList:=by
 show(x.cps++y.cps).toList=_
 rw[kXa]
theorem len26:("abcdefghijklmnopqrstuvwxyz":Str).length=26:=Dk
theorem len8:("abcdefgh":Str).length=8:=Dk
theorem pick5{a b d e:Int}:∃m:Int,atI [V.int a,V.int b,V.int c,V.int d,V.int e] (z % 5)=some (.int m)/\(m=a\/m=b\/m=c\/m=d\/m=e):=by
 rcases(show z % 5=0\/z % 5=1\/z % 5=2\/z % 5=3\/z % 5=4 by lia)with h | h | h | h | h<;>rw[h]
 .exact⟨a,rfl,.inl rfl⟩
 .exact⟨b,rfl,.inr (.inl rfl)⟩
 .exact⟨c,rfl,.inr (.inr (.inl rfl))⟩
 .exact⟨d,rfl,.inr (.inr (.inr (.inl rfl)))⟩
 .exact⟨e,rfl,.inr (.inr (.inr (.inr rfl)))⟩
inductive Qop(K:Fg)(vs:List V)(H:Hp)(Q:VK)(E:XK):Prop|mk(a:Addr)(ns:List Int)(k f:Int)(_:vs=[.ref a,.int k,.int f])(_:SqL K H a (ns.map V.int))(_:0<=k)(_:k<=1000)(_:0<=f)(_:f<8)(_:∀(x:Str) (H':Hp),fl x=97+f.toNat->NmOk x->Same H H'->Q (.str x) H'):Qop K vs H Q E
theorem scName:FnScope ["_law_script","_law_k","_law_first","_law_number","_law_found","_law_j"] ["_law_script","_law_k","_law_first"] (Qh Qsq):=Sc
theorem okName(F:Fn K mg "_law_name" Qsq)(M:Mg mg)(g:Cal P w K mg base 2 "_law_mixed" ["_law_script","_law_k"] (Kb K)):Cal P w K mg base 3 "_law_name" ["_law_script","_law_k","_law_first"] (Qop K):=by
 refine Xv F scName (a:=fun f R A u s H U Q E L h=>?_)
 obtain⟨a,G,k,f,rfl,J,T,h1,X,f1,q⟩:=h
 refine⟨_,(Qg (Z4 3 scName.nd (Xk g (L.mono Dc) (Qa (pv 0) (Qa (pv 1) Qf))))
  (Qg (Z4 4 scName.nd (Qs Qcu Qq (pv 2)))
  (Qg (Yb Y33 rfl (Xs rfl M.range_ (Qa (Qs Qn (Xg (Qa Qe (Qa Qe (Qa Qe (Qa Qe (Qa Qe Qf)))))) (Qk Xf (pv 3) Qe)) Qf)) (Z3 5 scName.nd) (Qg (Z4 3 scName.nd (Qk Qy (Qk Qy (Qk Xt (pv 3) Qe) (Qk Zy Qe (Xk g (L.mono Dc) (Qa (pv 0) (Qa (Qk Qy (pv 1) Qe) Qf))))) (pv 5)))
  (Qi (Z4 4 scName.nd (Qk Qz (pv 4) (Qs Qcu Qq (Qk Xf (pv 3) Qe)))))))
  (Qi (Qx (pv 4)))))),?_⟩
 refine Km ?_;intros
 exists"z"
 exists _,rfl,_,rfl,a,G,k,rfl,J,T,Om,fun z z0 z1=>?_
 exists _,rfl,_,_,_,rfl,rfl,by rw[len8];decide,Qwu X f1,?_
 exists Z1 5,fun p W=>?_
 have O:=Qd W (.lst [.int 0,.int 0,.int 1,.int 2,.int 11])
 obtain⟨m,em,hm⟩:=pick5 (a:=0) (b:=0) (c:=1) (d:=2) (e:=11) (z:=z)
 have m0:0<=m/\m<=11:=Om
 let B:Nat->St->Hp->Prop:=fun i C r=>∃(o:Int) (x:Str) (v:Option V),C=[some (.ref a),some (.int k),some (.int f),some (.int o),some (.str x),v]/\fl x=97+f.toNat/\x.length=1+i/\(∀c∈x.cps.toList,97<=c/\c<=122)/\Same H r
 exists _,rfl,_,_,rfl,rfl,Z0,p,_,_,_,rfl,rfl,Qb Qc,em,m,rfl,Om,Om,Xy (lo:=0) (n:=m.toNat) B ⟨z,_,none,rfl,rfl,rfl,fun c S=>by have e9:c=97+f.toNat:=jV.mp S;lia,O⟩ ?_ ?_
 .rintro i C r hi ⟨o,x,v,rfl,D,I,j,t⟩
  exists _,rfl,_,_,rfl,rfl,⟨Dc,Dc⟩,_,rfl,_,rfl,_,_,rfl,rfl,a,G,_,rfl,t.seq J,Om,Om,fun y y0 y1=>?_
  exists _,_,rfl,rfl,mulC _ _ Dc Dc,_,_,rfl,rfl,_,rfl,_,_,rfl,rfl,?_
  obtain⟨c,N⟩:=atS (x:="abcdefghijklmnopqrstuvwxyz") (z:=(o / 5+7*y+(0+(i:Int))) % 26) Om (by rw[len26];lia)
  exists _,rfl,_,rfl,_,_,rfl,rfl,Z0,_,_,_,rfl,rfl,by rw[len26];decide,N,_,_,rfl,rfl,?_,_,_,_,rfl,?_,?_,fun c9 l=>?_,t
  .show x.length+1<=sizeLine
   lia
  .rw[fl_app Om];exact D
  .rw[len_app,I]
   show 1+i+1=1+(i+1)
   lia
  .rw[Qww]at l
   rcases kW.mp l with h9 | h9
   .exact j c9 h9
   .rw[jV.mp h9];exact let26 c (Qwv N)
 .rintro C r ⟨o,x,v,rfl,D,I,j,t⟩
  exists _,rfl,q x r D ⟨Om,Om,j⟩ t
abbrev Qed:Stmt:=top 36
theorem pick4{a b d:Int}:∃m:Int,atI [V.int a,V.int b,V.int c,V.int d] (z % 4)=some (.int m)/\(m=a\/m=b\/m=c\/m=d):=by
 rcases(show z % 4=0\/z % 4=1\/z % 4=2\/z % 4=3 by lia)with h | h | h | h<;>rw[h]
 .exact⟨a,rfl,.inl rfl⟩
 .exact⟨b,rfl,.inr (.inl rfl)⟩
 .exact⟨c,rfl,.inr (.inr (.inl rfl))⟩
 .exact⟨d,rfl,.inr (.inr (.inr rfl))⟩
inductive Thing:BR->Prop
 |bench (b r:_):Thing (.bench b r)
 |shut (b f t:_):Thing (.shut b f t)
 |store (s m f:_):Thing (.store s m f)
structure ThOk(n:Int)(T:List BR):Prop where
 ok:∀r∈T,r.ok n
 th:∀r∈T,Thing r
 nd:T.Pairwise Apart
 gn:∀r∈T,r.gn
 ah:Ahead [.days n] T
theorem ThOk.snoc{T:List BR}{r:BR}(h:ThOk n T)(j:r.ok n)(d:Thing r)(i:∀q∈T,Apart q r)(f:r.gn)(l:∀k∈r.needs,Said ([.days n]++T) k):ThOk n (T++[r]):=by
 exists fun q c=>?_,fun q c=>?_,?_,fun q c=>?_,h.ah.app (Ahead.one l)
 .rcases kW.mp c with z | z
  .exact h.ok q z
  .rw[jV.mp z];exact j
 .rcases kW.mp c with z | z
  .exact h.th q z
  .rw[jV.mp z];exact d
 .refine jZb.mpr ⟨h.nd,jKc _ _,fun a g b e=>?_⟩
  rw[jV.mp e]
  exact i a g
 .rcases kW.mp c with z | z
  .exact h.gn q z
  .rw[jV.mp z];exact f
theorem gn1(h:NmOk x):∀y∈[x],NmOk y:=fun y a=>by rw[jV.mp a];exact h
theorem Qcx{T:List BR}:∀k∈[[(inr ("days":Str):Key)]],Said ([BR.days n]++T) k:=fun k a=>by
 rw[jV.mp a]
 exists .days n,jY,rfl
theorem Qhv{b:Str}{T:List BR}(h:BR.bench b m∈T):∀k∈[[(inr ("bench":Str):Key),inr b]],Said ([BR.days n]++T) k:=fun k a=>by
 rw[jV.mp a]
 exists .bench b m,yV _ h,rfl
def flB:BR->Nat
 |.bench b _=>fl b
 |_=>0
def flS:BR->Nat
 |.store s _ _=>fl s
 |_=>0
theorem Qhw{q:BR}{b:Str}{r:Int}(g:Thing q)(h:flB q<fl b):Apart q (.bench b r):=by
 cases g with
 |bench b' r'=>
  refine .inr (.inr fun z=>?_)
  have a:fl b'<fl b:=h
  have c:[(inr ("bench":Str):Key),inr b']=[inr ("bench":Str),inr b]:=z
  injection c with _ e
  injection e with d
  injection d with i
  rw[i]at a
  exact Y21 a (jZd _)
 |shut b' f t=>exact .inl rfl
 |store s m f=>exact Zp (by show(3:Nat)≠1;decide)
theorem Qhx{q:BR}{s:Str}{f:Int}(g:Thing q)(h:flS q<fl s):Apart q (.store s m f):=by
 cases g with
 |bench b' r'=>exact Zp (by show(1:Nat)≠3;decide)
 |shut b' f t=>exact .inl rfl
 |store s' m' f'=>
  refine .inr (.inr fun z=>?_)
  have a:fl s'<fl s:=h
  have c:[(inr ("store":Str):Key),inr s']=[inr ("store":Str),inr s]:=z
  injection c with _ e
  injection e with d
  injection d with i
  rw[i]at a
  exact Y21 a (jZd _)
inductive Qjt(K:Fg)(vs:List V)(H:Hp)(Q:VK)(E:XK):Prop|mk(a:Addr)(ns:List Int)(n:Int)(_:vs=[.ref a,.int n])(_:SqL K H a (ns.map V.int))(_:1<=n)(_:n<=12)(_:∀(g:Addr) (vs:List V) (B:List BR) (H':Hp),Same H H'->H g=none->H' g=some (.lst vs)->RowsB H' vs B->ThOk n B->B.length<=11->Q (.ref g) H'):Qjt K vs H Q E
theorem scThings:FnScope ["_law_script","_law_days","_law_found","_law_number","_law_k","_law_bench","_law_more","_law_j","_law_end","_law_most"] ["_law_script","_law_days"] (Qh Qed):=Sc
theorem Qsr(F:Fn K mg "_law_things" Qed)(M:Mg mg)(k:Cal P w K mg base 2 "_law_mixed" ["_law_script","_law_k"] (Kb K))(D:Cal P w K mg base 3 "_law_name" ["_law_script","_law_k","_law_first"] (Qop K)):Cal P w K mg base 4 "_law_things" ["_law_script","_law_days"] (Qjt K):=by
 refine Xv F scThings (a:=fun f aC A ao s H v Q E u h=>?_)
 obtain⟨a,ns,n,rfl,hS,n1,aI,q⟩:=h
 refine⟨_,(Qg (Z4 2 scThings.nd (Xg Qf))
  (Qg (Z4 3 scThings.nd (Xk k (u.mono Dc) (Qa (pv 0) (Qa Qe Qf))))
  (Qg (Yb Y33 rfl (Xs rfl M.range_ (Qa (Qk Xf (pv 3) Qe) Qf)) (Z3 4 scThings.nd) (Qg (Z4 5 scThings.nd (Xk D (u.mono Dc) (Qa (pv 0) (Qa (Qk Qy Qe (Qk Zy Qe (pv 4))) (Qa (pv 4) Qf)))))
  (Qg (Yj (Yt Y1 Y2 Y3 Xq (pv 2) (Qa (Xg (Qa Qq (Qa (pv 5) (Qa (Qs Qn (Xg (Qa Qe (Qa Qe (Qa Qe (Qa Qe (Qa Qe Qf)))))) (Qk Xf (Xk k (u.mono Dc) (Qa (pv 0) (Qa (Qk Qy Qe (pv 4)) Qf))) Qe)) Qf)))) Qf)))
  (Qg (Z4 6 scThings.nd (Xk k (u.mono Dc) (Qa (pv 0) (Qa (Qk Qy Qe (pv 4)) Qf))))
  (Qi (Yb Y33 rfl (Xs rfl M.range_ (Qa (Qk Xf (pv 6) Qe) Qf)) (Z3 7 scThings.nd) (Qg (Z4 8 scThings.nd (Qk Qy Qe (Qk Xf (Qk Xt (pv 6) Qe) (pv 1))))
  (Qg (Yj (Yt Y1 Y2 Y3 Xq (pv 2) (Qa (Xg (Qa Qq (Qa (pv 5) (Qa (Qk Xf (Qk Xt (pv 6) Qe) (pv 8)) (Qa (pv 8) Qf))))) Qf)))
  (Qi (Z4 6 scThings.nd (Qk Xt (pv 6) Qe)))))))))))
  (Qg (Yb Y33 rfl (Xs rfl M.range_ (Qa (Qk Xf (Qk Xt (pv 3) Qe) Qe) Qf)) (Z3 4 scThings.nd) (Qg (Z4 9 scThings.nd (Qs Qn (Xg (Qa Qe (Qa Qe (Qa Qe (Qa Qe Qf))))) (Qk Xf (Xk k (u.mono Dc) (Qa (pv 0) (Qa (Qk Qy Qe (pv 4)) Qf))) Qe)))
  (Qi (Yj (Yt Y1 Y2 Y3 Xq (pv 2) (Qa (Xg (Qa Qq (Qa (Xk D (u.mono Dc) (Qa (pv 0) (Qa (Qk Qy Qe (Qk Zy Qe (pv 4))) (Qa (pv 4) Qf)))) (Qa (pv 9) (Qa (Qk Xf (Xk k (u.mono Dc) (Qa (pv 0) (Qa (Qk Qy Qe (pv 4)) Qf))) (Qk Qy (pv 9) Qe)) Qf))))) Qf))))))
  (Qi (Qx (pv 2))))))),?_⟩
 refine Qae ?_;intros
 exists"z"
 exists Z1 0,fun g hg=>?_
 have s0:=Qd hg (.lst [])
 have ak:upd H g (.lst []) g=some (.lst []):=Qc
 generalize upd H g (.lst [])=H0 at s0 ak⊢
 exists _,rfl,a,ns,1,rfl,s0.seq hS,Dc,Dc,fun z z0 z1=>?_
 let az:Nat->St->Hp->Prop:=fun i O W=>∃(v4 v5 v6 J S R:Option V) (v:List V) (B:List BR),O=[some (.ref a),some (.int n),some (.ref g),some (.int z),v4,v5,v6,J,S,R]/\W g=some (.lst v)/\RowsB W v B/\ThOk n B/\(∀r∈B,flB r<97+i/\flS r=0)/\B.length<=3*i/\Same H W
 exists _,rfl,_,_,rfl,rfl,Z0,z % 4,rfl,Om,Om,Xy (lo:=0) (n:=(z % 4).toNat) az ⟨none,none,none,none,none,none,[],[],rfl,ak,.nil,⟨fun _ h=>(nomatch h),fun _ h=>(nomatch h),.nil,fun _ h=>(nomatch h),True.intro⟩,fun _ h=>(nomatch h),wJ _,s0⟩ ?_ ?_
 .rintro i O W hi ⟨v4,v5,v6,J,S,R,v,B,rfl,aa,hB,hT,X,hl,s1⟩
  have ay:i<4:=Om
  have lv:=hB.length
  exists _,rfl,_,rfl,_,_,rfl,rfl,mulC _ _ Dc Dc,_,_,rfl,rfl,_,rfl,a,ns,_,_,rfl,s1.seq hS,Om,Om,Om,Om,fun b H2 hb an s2=>?_
  have aq:fl b=97+i:=by rw[hb];lia
  exists _,rfl,.inl ⟨rfl,_,Qb (s2 _ _ aa)⟩,_,rfl,Z1 5,fun p hp=>?_
  have s3:=s2.trans (Qd hp (.lst [.int 1,.int 2,.int 5,.int 99,.int 0]))
  exists _,rfl,_,rfl,_,_,rfl,rfl,a,ns,_,rfl,(s1.trans s3).seq hS,Om,Om,fun y y0 y1=>?_
  obtain⟨m,em,hm⟩:=pick5 (a:=1) (b:=2) (c:=5) (d:=99) (e:=0) (z:=y)
  exists _,_,rfl,rfl,Z0,p,_,_,_,rfl,rfl,Qb Qc,em,Z1 3,fun l I=>?_
  have s4:=s3.trans (Qd I (.lst [.str "bench",.str b,.int m]))
  have ai:upd (upd H2 p (.lst [.int 1,.int 2,.int 5,.int 99,.int 0])) l (.lst [.str "bench",.str b,.int m]) l=some (.lst ((BR.bench b m).cells.map kV)):=Qc
  generalize upd (upd H2 p (.lst [.int 1,.int 2,.int 5,.int 99,.int 0])) l (.lst [.str "bench",.str b,.int m])=H4 at s4 ai⊢
  have al:=s4 _ _ aa
  exists g,_,_,rfl,rfl,al,Om,?_
  have ac:RowsB (upd H4 g (.lst (v++[.ref l]))) (v++[.ref l]) (B++[.bench b m]):=((hB.same s4).snoc ai).updL al hB.noRow
  have T:upd H4 g (.lst (v++[.ref l])) g=some (.lst (v++[.ref l])):=Qc
  have s5:Same H (upd H4 g (.lst (v++[.ref l]))):=fun c o e=>by rw[Qj (Qm e hg)];exact(s1.trans s4) _ _ e
  generalize upd H4 g (.lst (v++[.ref l]))=H5 at ac T s5⊢
  exists _,rfl,_,rfl,_,_,rfl,rfl,a,ns,_,rfl,s5.seq hS,Om,Om,fun mo aD aK=>?_
  have ax:ThOk n (B++[.bench b m]):=hT.snoc ⟨Om,Om⟩ (.bench _ _) (fun r u=>Qhw (hT.th r u) (by rw[aq];exact(X r u).1)) (gn1 an) Qcx
  let aB:Nat->St->Hp->Prop:=fun j O H6=>∃(t:Int) (J S R:Option V) (v:List V) (B:List BR),O=[some (.ref a),some (.int n),some (.ref g),some (.int z),some (.int (0+(i:Int))),some (.str b),some (.int t),J,S,R]/\H6 g=some (.lst v)/\RowsB H6 v B/\ThOk n B/\(BR.bench b m∈B/\∀r∈B,flB r<97+(i+1)/\flS r=0)/\B.length<=3*i+1+j/\Same H H6
  exists _,rfl,_,_,rfl,rfl,Z0,mo % 3,rfl,Om,Om,Xy (lo:=0) (n:=(mo % 3).toNat) aB ⟨mo,_,_,_,_,_,rfl,T,ac,ax,⟨yV _ jY,fun r u=>?_⟩,by rw[jZ];show B.length+1<=_;lia,s5⟩ ?_ ?_
  .rcases kW.mp u with h | h
   .have:=X r h;exists Om,this.2
   .rw[jV.mp h];exists by show fl b<_;lia,rfl
  .rintro j O H6 hj ⟨t,J,S,R,am,B6,rfl,Z,L,ab,C,av,s6⟩
   have aF:=L.length
   have e0:=jQc (t / 3) (show n≠0 by lia)
   have e1:=wQ (t / 3) (show 0<n by lia)
   generalize hE:t / 3 % n=E at e0 e1
   have f0:=jQc (t / 40) (show(1+E)≠0 by lia)
   have f1:=wQ (t / 40) (show 0<1+E by lia)
   exists _,rfl,_,_,rfl,rfl,⟨Dc,Dc⟩,_,rfl,_,_,rfl,rfl,(by show 0<n;lia),_,_,rfl,rfl,?_
   rw[hE]
   exists _,rfl,.inl ⟨rfl,_,Qb Z⟩,_,rfl,_,rfl,_,_,rfl,rfl,⟨Dc,Dc⟩,_,rfl,_,_,rfl,rfl,(by show 0<1+E;lia),_,rfl,Z1 4,fun l I=>?_
   have s7:=Qd I (.lst [.str "shut",.str b,.int (t / 40 % (1+E)),.int (1+E)])
   have ad:upd H6 l (.lst [.str "shut",.str b,.int (t / 40 % (1+E)),.int (1+E)]) l=some (.lst ((BR.shut b (t / 40 % (1+E)) (1+E)).cells.map kV)):=Qc
   generalize upd H6 l (.lst [.str "shut",.str b,.int (t / 40 % (1+E)),.int (1+E)])=H7 at s7 ad⊢
   have ae:=s7 _ _ Z
   exists g,_,_,rfl,rfl,ae,Om,?_
   exists _,rfl,_,_,rfl,rfl,⟨Dc,Dc⟩,_,_,_,_,_,_,rfl,Qc,((L.same s7).snoc ad).updL ae L.noRow,ab.snoc ⟨f0,f1,Om⟩ (.shut _ _ _) (fun r _=>.inr (.inl rfl)) (gn1 an) (Qhv C.1),⟨zY _ C.1,fun r u=>?_⟩,by rw[jZ];show B6.length+1<=_;lia,fun c o e=>by rw[Qj (Qm e hg)];exact(s6.trans s7) _ _ e
   rcases kW.mp u with h | h
   .exact C.2 r h
   .rw[jV.mp h];exists by show 0<_;lia,rfl
  .rintro O H6 ⟨t,J,S,R,am,B6,rfl,Z,L,ab,C,av,s6⟩
   exists _,_,_,_,_,_,am,B6,rfl,Z,L,ab,C.2,Om,s6
 .rintro O W ⟨v4,v5,v6,J,S,R,v,B,rfl,aa,hB,hT,X,hl,s1⟩
  let ar:Nat->St->Hp->Prop:=fun i O W=>∃(v4 v5 v6 J S R:Option V) (v:List V) (B:List BR),O=[some (.ref a),some (.int n),some (.ref g),some (.int z),v4,v5,v6,J,S,R]/\W g=some (.lst v)/\RowsB W v B/\ThOk n B/\(∀r∈B,flS r<97+i)/\B.length<=9+i/\Same H W
  exists _,rfl,_,_,rfl,rfl,⟨Dc,Dc⟩,_,_,rfl,rfl,Z0,z / 4 % 3,rfl,Om,Om,Xy (lo:=0) (n:=(z / 4 % 3).toNat) ar ⟨_,_,_,_,_,_,v,B,rfl,aa,hB,hT,fun r u=>by rw[(X r u).2];lia,Om,s1⟩ ?_ ?_
  .rintro i O H2 hi ⟨v4,v5,v6,J,S,R,ah,B2,rfl,U,G,Y,N,aA,s2⟩
   have ay:i<3:=Om
   have lv:=G.length
   exists Z1 4,fun p hp=>?_
   have s3:=Qd hp (.lst [.int 0,.int 3,.int 9,.int 999])
   have af:upd H2 p (.lst [.int 0,.int 3,.int 9,.int 999]) p=some (.lst [.int 0,.int 3,.int 9,.int 999]):=Qc
   generalize upd H2 p (.lst [.int 0,.int 3,.int 9,.int 999])=H3 at s3 af⊢
   exists _,rfl,_,rfl,_,_,rfl,rfl,a,ns,_,rfl,(s2.trans s3).seq hS,Om,Om,fun y y0 y1=>?_
   obtain⟨m,em,hm⟩:=pick4 (a:=0) (b:=3) (c:=9) (d:=999) (z:=y)
   have au:0<=m/\m<=999:=Om
   exists _,_,rfl,rfl,Z0,p,_,_,_,rfl,rfl,Qb af,em,?_
   exists _,rfl,.inl ⟨rfl,_,Qb (s3 _ _ U)⟩,_,rfl,_,rfl,_,_,rfl,rfl,mulC _ _ Dc Dc,_,_,rfl,rfl,_,rfl,a,ns,_,_,rfl,(s2.trans s3).seq hS,Om,Om,Om,Om,fun x H4 hx ap s4=>?_
   have aw:fl x=97+i:=by rw[hx];lia
   have aj:=s3.trans s4
   exists _,rfl,_,rfl,_,rfl,_,_,rfl,rfl,a,ns,_,rfl,(s2.trans aj).seq hS,Om,Om,fun y' aE aG=>?_
   have f0:=jQc y' (show(m+1)≠0 by lia)
   have f1:=wQ y' (show 0<m+1 by lia)
   exists _,rfl,_,_,rfl,rfl,_,_,rfl,rfl,(by show 0<m+1;lia),Z1 4,fun l I=>?_
   have s5:=aj.trans (Qd I (.lst [.str "store",.str x,.int m,.int (y' % (m+1))]))
   have ag:upd H4 l (.lst [.str "store",.str x,.int m,.int (y' % (m+1))]) l=some (.lst ((BR.store x m (y' % (m+1))).cells.map kV)):=Qc
   generalize upd H4 l (.lst [.str "store",.str x,.int m,.int (y' % (m+1))])=H5 at s5 ag⊢
   have T:=s5 _ _ U
   exists g,_,_,rfl,rfl,T,Om,?_
   exists _,_,_,_,_,_,_,_,rfl,Qc,((G.same s5).snoc ag).updL T G.noRow,Y.snoc ⟨f0,Om,au.2⟩ (.store _ _ _) (fun r u=>Qhx (Y.th r u) (by rw[aw];exact N r u)) (gn1 ap) Qcx,fun r u=>?_,by rw[jZ];show B2.length+1<=_;lia,fun c o e=>by rw[Qj (Qm e hg)];exact(s2.trans s5) _ _ e
   rcases kW.mp u with h | h
   .have:=N r h;lia
   .rw[jV.mp h];show fl x<_;lia
  .rintro O H2 ⟨v4,v5,v6,J,S,R,ah,B2,rfl,U,G,Y,N,aA,s2⟩
   exists _,rfl,q g ah B2 H2 s2 hg U G Y Om
abbrev sWay:Stmt:=top 37
theorem at_b1(b:Str)(r:Int):atI ((BR.bench b r).cells.map kV) 1=some (.str b):=rfl
theorem at_s1(b:Str)(m f:Int):atI ((BR.store b m f).cells.map kV) 1=some (.str b):=rfl
theorem Qaa{r:BR}(h:r.word=x):atI (r.cells.map kV) 0=some (.str x):=by rw[<-h];exact Yl r
theorem bind6{F:List Value->Prop}(h:∀a b c d e f,F [a,b,c,d,e,f]):∀us:List Value,us.length=6->F us:=fun us g=>by
 cases us with
 |nil=>cases g
 |cons a us=>exact bind5 (F:=fun us=>F (a::us)) (h a) us (Nat.succ.inj g)
theorem neS{a b:Str}(h:a≠b):¬(decide (V.str a=V.str b)=true):=fun z=>by
 have:=kZ z
 injection this with c
 exact h c
theorem eqS{a b:Str}(h:decide (V.str a=V.str b)=true):a=b:=by
 have:=kZ h
 injection this
theorem yesS(a:Str):decide (V.str a=V.str a)=true:=yX rfl
theorem w_bs:("bench":Str)≠"store":=Dk
theorem w_sb:("store":Str)≠"bench":=Dk
theorem w_hb:("shut":Str)≠"bench":=Dk
theorem w_hs:("shut":Str)≠"store":=Dk
theorem pick2{a b:Int}:∃m:Int,atI [V.int a,V.int b] (z % 2)=some (.int m)/\(m=a\/m=b):=by
 rcases(show z % 2=0\/z % 2=1 by lia)with h | h<;>rw[h]
 .exact⟨a,rfl,.inl rfl⟩
 .exact⟨b,rfl,.inr rfl⟩
theorem pick3{a b:Int}:∃m:Int,atI [V.int a,V.int b,V.int c] (z % 3)=some (.int m)/\(m=a\/m=b\/m=c):=by
 rcases(show z % 3=0\/z % 3=1\/z % 3=2 by lia)with h | h | h<;>rw[h]
 .exact⟨a,rfl,.inl rfl⟩
 .exact⟨b,rfl,.inr (.inl rfl)⟩
 .exact⟨c,rfl,.inr (.inr rfl)⟩
theorem pickTG(N:Int):∃kk:Fin 3,atI [V.str "takes",V.str "gives"] (N % 2)=some (.str (useW kk))/\kk≠0/\(N % 2=1->kk=2):=by
 rcases(show N % 2=0\/N % 2=1 by lia)with h | h<;>rw[h]
 .exact⟨1,rfl,Dc,fun z=>Y21 z Dc⟩
 .exact⟨2,rfl,Dc,fun _=>rfl⟩
def UseOf(T:List BR)(w v:Str)(i:Nat)(r:BR):Prop:=∃k t m,r=.use k w v t m/\1<=m/\m<=99/\((k=0/\∃j b,j<i/\T[j]?=some (.bench t b))\/(k≠0/\∃j b c,j<i/\T[j]?=some (.store t b c)))
theorem UseOf.mono{T:List BR}{w:Str}{r:BR}(h:UseOf T w v i r)(g:i<=j):UseOf T w v j r:=by
 obtain⟨k,t,m,e,f,n,h⟩:=h
 exists k,t,m,e,f,n,?_
 rcases h with⟨e,d,b,l,a⟩ | ⟨e,d,b,c,l,a⟩
 .exact .inl ⟨e,d,b,Om,a⟩
 .exact .inr ⟨e,d,b,c,Om,a⟩
theorem Qfz{α:Type}{R:α->α->Prop}:∀{l:List α} {i j:Nat} {x y:α},l.Pairwise R->i<j->l[i]?=some x->l[j]?=some y->R x y
 |a::l,0,j+1,x,y,h,_,e1,e2=>by
  cases e1
  exact(jYb.mp h).1 y (kY (show l[j]?=some y from e2))
 |a::l,i+1,j+1,x,y,h,hij,e1,e2=>Qfz (jYb.mp h).2 Om (show l[i]?=some x from e1) (show l[j]?=some y from e2)
 |[],_,_,_,_,_,_,e1,_=>nomatch e1
 |_::_,_,0,_,_,_,h,_,_=>Y21 h (kQd _)
theorem Qss:∀k' k:Fin 3,useW k'=useW k->k'=k:=Dk
theorem Qbk{T:List BR}{w t:Str}{k:Fin 3}{r:BR}(o:T.Pairwise Apart)(h:UseOf T w v i r)(n:(k=0/\∃b,T[i]?=some (.bench t b))\/(k≠0/\∃b c,T[i]?=some (.store t b c))):Apart r (.use k w v t m):=by
 obtain⟨d,s,G,rfl,_,_,h⟩:=h
 refine .inr (.inr fun z=>?_)
 have E:[(inr (useW d):Key),inr w,inr v,inr s]=[inr (useW k),inr w,inr v,inr t]:=z
 injection E with u y
 injection y with _ C
 injection C with _ A
 injection A with p
 injection p with D
 injection u with x
 have F:d=k:=Qss d k x
 subst F D
 rcases h with⟨e,j,b,l,f⟩ | ⟨e,j,b,c,l,f⟩
 .rcases n with⟨_,B,g⟩ | ⟨a,_⟩
  .rcases Qfz o l f g with q | q | q
   .exact Y21 q (Sn "bench" "shut")
   .exact Y21 q (Sn "bench" "shut")
   .exact q rfl
  .exact a e
 .rcases n with⟨a,_⟩ | ⟨_,B,H,g⟩
  .exact e a
  .rcases Qfz o l f g with q | q | q
   .exact Y21 q (Sn "store" "shut")
   .exact Y21 q (Sn "store" "shut")
   .exact q rfl
theorem way_apart{w w' t:Str}{k:Fin 3}:Apart (.way w v l c) (.use k w' v' t m):=Zp (by show(5:Nat)≠6+k.val;lia)
structure WayBlk(n:Int)(T:List BR)(w v:Str)(R:List BR):Prop where
 hd:∃l c U,R=.way w v l c::U/\1<=l/\l<=n/\0<=c/\c<=999999/\∀r∈U,UseOf T w v T.length r
 nd:R.Pairwise Apart
 len:R.length<=1+2*T.length
inductive spWay(K:Fg)(vs:List V)(H:Hp)(Q:VK)(E:XK):Prop|mk(a d:Addr)(ns:List Int)(st n:Int)(w v:Str)(us:List V)(T:List BR)(_:vs=[.ref a,.int st,.int n,.str w,.str v,.ref d])(_:SqL K H a (ns.map V.int))(_:0<=st)(_:st<=1000)(_:1<=n)(_:n<=12)(_:SqL K H d us)(_:RowsB H us T)(_:ThOk n T)(_:T.length<=11)(_:∀(g:Addr) (vs:List V) (R:List BR) (H':Hp),Same H H'->H g=none->H' g=some (.lst vs)->RowsB H' vs R->WayBlk n T w v R->Q (.ref g) H'):spWay K vs H Q E
theorem scWay:FnScope ["_law_script","_law_start","_law_days","_law_work","_law_way_here","_law_things_here","_law_number","_law_length_here","_law_found","_law_thing","_law_many_here"] ["_law_script","_law_start","_law_days","_law_work","_law_way_here","_law_things_here"] (Qh sWay):=Sc
theorem okWay(F:Fn K mg "_law_way" sWay)(M:Mg mg)(G:Cal P w K mg base 2 "_law_mixed" ["_law_script","_law_k"] (Kb K)):Cal P w K mg base 3 "_law_way" ["_law_script","_law_start","_law_days","_law_work","_law_way_here","_law_things_here"] (spWay K):=by
 refine Xv F scWay (a:=fun f aO A aD s H vs Q E D h=>?_)
 obtain⟨a,d,ns,st,n,w,v,us,T,rfl,hS,aL,aQ,n1,aT,hd,hT,tT,tl,q⟩:=h
 refine⟨_,(Qg (Z4 6 scWay.nd (Xk G (D.mono Dc) (Qa (pv 0) (Qa (pv 1) Qf))))
  (Qg (Z4 7 scWay.nd (Qk Qy Qe (Qk Xf (pv 6) (Qr (Qan rfl) rfl M.min Qnp (Qa (pv 2) (Qa (Qs Qn (Xg (Qa Qe (Qa Qe Qf))) (Qk Xf (Qk Xt (pv 6) Qe) Qe)) Qf))))))
  (Qg (Z4 8 scWay.nd (Xg (Qa (Xg (Qa Qq (Qa (pv 3) (Qa (pv 4) (Qa (pv 7) (Qa (Qs Qn (Xg (Qa (Qk Xf (Qk Xt (pv 6) Qe) Qe) (Qa (Qk Xf (Qk Xt (pv 6) Qe) Qe) Qf))) (Qk Xf (pv 6) Qe)) Qf)))))) Qf)))
  (Qg (Yb Y33 rfl (Xd (pv 5)) (Z3 9 scWay.nd) (Qg (Z4 6 scWay.nd (Qk Qy (Qk Qsi (Xk G (D.mono Dc) (Qa (pv 0) (Qa (Qk Qy (pv 1) Qe) Qf))) (Qk Qy Qe (Qk Zy Qe (Qr Qu rfl M.len Xr (Qa (pv 8) Qf))))) (Qr Qu rfl M.len Xr (Qa (pv 8) Qf))))
  (Qg (Z4 10 scWay.nd (Qs Qn (Xg (Qa Qe (Qa Qe (Qa Qe Qf)))) (Qk Xf (Qk Xt (pv 6) Qe) Qe)))
  (Qg (Xp (PW.pt (Zd (Ql Ye (Qs Qn (pv 9) Qe) Qq (Qp _)) (Ys (Ql Qcj (Qk Xf (pv 6) Qe) Qe (Qp _))))) (Qi (Yj (Yt Y1 Y2 Y3 Xq (pv 8) (Qa (Xg (Qa Qq (Qa (pv 3) (Qa (pv 4) (Qa (Qs Qn (pv 9) Qe) (Qa (pv 10) Qf)))))) Qf)))) Qv)
  (Qg (Xp (PW.pt (Zd (Ql Ye (Qs Qn (pv 9) Qe) Qq (Qp _)) (Ys (Ql Wb (Qk Xf (pv 6) Qe) Qe (Qp _))))) (Qi (Yj (Yt Y1 Y2 Y3 Xq (pv 8) (Qa (Xg (Qa (Qs Qn (Xg (Qa Qq (Qa Qq Qf))) (Qk Xf (pv 6) Qe)) (Qa (pv 3) (Qa (pv 4) (Qa (Qs Qn (pv 9) Qe) (Qa (pv 10) Qf)))))) Qf)))) Qv)
  (Qi (Xp (PW.pt (Zd (Ql Ye (Qs Qn (pv 9) Qe) Qq (Qp _)) (Ys (Ql Ye (Qk Xf (pv 6) Qe) Qe (Qp _))))) (Qi (Yj (Yt Y1 Y2 Y3 Xq (pv 8) (Qa (Xg (Qa Qq (Qa (pv 3) (Qa (pv 4) (Qa (Qs Qn (pv 9) Qe) (Qa (Qk Qy Qe (Qk Xf (Qk Xt (pv 6) Qe) Qe)) Qf)))))) Qf)))) Qv)))))))
  (Qi (Qx (pv 8))))))),?_⟩
 refine Qae ?_;intros
 exists"z"
 have lu:=hT.length
 exists _,rfl,_,rfl,a,ns,st,rfl,hS,aL,Om,fun z z0 z1=>?_
 exists _,rfl,_,rfl,Z1 2,fun p hp=>?_
 have s1:=Qd hp (.lst [.int 3,.int 12])
 have ax:upd H p (.lst [.int 3,.int 12]) p=some (.lst [.int 3,.int 12]):=Qc
 generalize upd H p (.lst [.int 3,.int 12])=H1 at s1 ax⊢
 obtain⟨m,em,hm⟩:=pick2 (a:=3) (b:=12) (z:=z / 12)
 exists _,rfl,_,_,rfl,rfl,⟨Dc,Dc⟩,_,_,rfl,rfl,Z0,p,_,_,_,rfl,rfl,Qb ax,em,_,_,rfl,?_
 obtain⟨mm,aC⟩:∃mm:Int,(if m<n then m else n)=mm:=⟨_,rfl⟩
 have aR:1<=mm/\mm<=n:=by rw[<-aC];split<;>lia
 rw[aC]
 have l0:=jQc z (show mm≠0 by lia)
 have l1:=wQ z (show 0<mm by lia)
 exists _,_,rfl,rfl,(by show 0<mm;lia),_,_,rfl,rfl,?_
 dsimp only
 generalize hL:1+z % mm=L
 have az:1<=L/\L<=n:=Om
 exists _,rfl,_,rfl,_,rfl,_,rfl,_,_,rfl,rfl,⟨Dc,Dc⟩,_,_,rfl,rfl,Z0,_,rfl,_,_,rfl,rfl,⟨Dc,Dc⟩,_,_,rfl,rfl,Z0,Z1 2,fun p2 aF=>?_
 have s2:=s1.trans (Qd aF (.lst [.int (z / 24 % 10),.int (z / 24 % 1000000)]))
 have al:upd H1 p2 (.lst [.int (z / 24 % 10),.int (z / 24 % 1000000)]) p2=some (.lst [.int (z / 24 % 10),.int (z / 24 % 1000000)]):=Qc
 generalize upd H1 p2 (.lst [.int (z / 24 % 10),.int (z / 24 % 1000000)])=H2 at s2 al⊢
 obtain⟨c,ec,hc⟩:=pick2 (a:=z / 24 % 10) (b:=z / 24 % 1000000) (z:=z)
 have aB:0<=c/\c<=999999:=Om
 exists _,rfl,_,_,rfl,rfl,Z0,p2,_,_,_,rfl,rfl,Qb al,ec,Z1 5,fun l hl=>?_
 have s3:=s2.trans (Qd hl (.lst [.str "way",.str w,.str v,.int L,.int c]))
 have aw:upd H2 l (.lst [.str "way",.str w,.str v,.int L,.int c]) l=some (.lst ((BR.way w v L c).cells.map kV)):=Qc
 generalize upd H2 l (.lst [.str "way",.str w,.str v,.int L,.int c])=H3 at s3 aw⊢
 exists Z1 1,fun g hg=>?_
 have gH:H g=none:=by
  cases e5:H g with
  |none=>rfl
  |some o=>rw[s3 _ _ e5]at hg;cases hg
 have s4:=s3.trans (Qd hg (.lst [.ref l]))
 have aA:upd H3 g (.lst [.ref l]) g=some (.lst [.ref l]):=Qc
 have ap:RowsB (upd H3 g (.lst [.ref l])) [.ref l] [.way w v L c]:=RowsB.snoc (vs:=[]) (B:=[]) .nil (Qd hg _ _ _ aw)
 generalize upd H3 g (.lst [.ref l])=H4 at s4 aA ap⊢
 let aJ:Nat->St->Hp->Prop:=fun i σ H5=>∃(zz:Int) (v9 Y:Option V) (vs:List V) (U:List BR),σ=[some (.ref a),some (.int st),some (.int n),some (.str w),some (.str v),some (.ref d),some (.int zz),some (.int L),some (.ref g),v9,Y]/\H5 g=some (.lst vs)/\RowsB H5 vs (.way w v L c::U)/\(∀r∈U,UseOf T w v i r)/\U.Pairwise Apart/\U.length<=2*i/\Same H H5
 exists _,rfl,d,rfl,⟨_,s4.seq hd⟩,Yx (K:=K) (a:=d) (xs:=us) aJ ⟨z,none,none,_,[],rfl,aA,ap,fun _ h=>(nomatch h),.nil,wJ _,s4⟩ (fun i σ H5 _ h=>?_) ?_ ?_
 .obtain⟨zz,v9,Y,vs,U,rfl,af,ag,hU,W,ak,s5⟩:=h
  exact s5.seq hd
 .rintro i x σ H5 e1 ⟨zz,v9,Y,vs,U,rfl,af,ag,hU,W,ak,s5⟩
  obtain⟨r,J,er,rfl,aG⟩:=(hT.same s5).get e1
  have hi:i<T.length:=(jK.mp er).1
  have lv:=ag.length
  rw[yQ]at lv
  exists _,rfl,_,rfl,_,_,rfl,rfl,a,ns,_,rfl,s5.seq hS,Om,Om,fun y y0 y1=>?_
  exists _,rfl,g,_,rfl,.inl (Qb af),_,_,rfl,rfl,mulC _ _ Dc Dc,_,_,rfl,rfl,_,_,rfl,rfl,?_,_,rfl,g,_,rfl,.inl (Qb af),_,_,rfl,rfl,?_
  .exact⟨Om,zJ (show(1+5*((vs.length:Nat):Int)).natAbs<=1000000 by lia) Dk⟩
  dsimp only
  generalize y.fdiv (1+5*((vs.length:Nat):Int))+((vs.length:Nat):Int)=N
  exists Z1 3,fun p6 aE=>?_
  have s6:=Qd aE (.lst [.int 1,.int 2,.int 99])
  have am:upd H5 p6 (.lst [.int 1,.int 2,.int 99]) p6=some (.lst [.int 1,.int 2,.int 99]):=Qc
  generalize upd H5 p6 (.lst [.int 1,.int 2,.int 99])=H6 at s6 am⊢
  obtain⟨O,aN,aP⟩:=pick3 (a:=1) (b:=2) (c:=99) (z:=N / 4)
  have ae:1<=O/\O<=99:=Om
  exists _,rfl,_,_,rfl,rfl,⟨Dc,Dc⟩,_,_,rfl,rfl,Z0,p6,_,_,_,rfl,rfl,Qb am,aN,?_
  have j:=s6 _ _ aG
  have ad:=s6 _ _ af
  have S:=ag.same s6
  have ah:=s5.trans s6
  cases tT.th r (kY er)with
  |shut b f t=>
   exists _,rfl,J,_,_,_,rfl,rfl,Qb j,Qaa (x:="shut") rfl,rfl,_,rfl,ite2 (fun C=>Y21 C (neS w_hb)) (fun _=>?_)
   exists _,rfl,J,_,_,_,rfl,rfl,Qb j,Qaa (x:="shut") rfl,rfl,_,rfl,ite2 (fun C=>Y21 C (neS w_hs)) (fun _=>?_)
   exists _,rfl,J,_,_,_,rfl,rfl,Qb j,Qaa (x:="shut") rfl,rfl,_,rfl,ite2 (fun C=>Y21 C (neS w_hs)) (fun _=>?_)
   exists _,_,_,vs,U,rfl,ad,S,fun r D=>(hU r D).mono Om,W,Om,ah
  |bench b rm=>
   exists _,rfl,J,_,_,_,rfl,rfl,Qb j,Qaa (x:="bench") rfl,rfl,_,rfl,ite2 (fun _=>?_) (fun C=>Y21 (yesS _) C)
   have key:∀(u:Hp) (R:List V) (U7:List BR),u J=some (.lst ((BR.bench b rm).cells.map kV))->u g=some (.lst R)->RowsB u R (.way w v L c::U7)->(∀r∈U7,UseOf T w v (i+1) r)->U7.Pairwise Apart->U7.length<=2*(i+1)->Same H u->∃(zz:Int) (v9 Y:Option V) (vs:List V) (U:List BR),[some (.ref a),some (.int st),some (.int n),some (.str w),some (.str v),some (.ref d),some (.int N),some (.int L),some (.ref g),some (.ref J),some (.int O)]=[some (.ref a),some (.int st),some (.int n),some (.str w),some (.str v),some (.ref d),some (.int zz),some (.int L),some (.ref g),v9,Y]/\u g=some (.lst vs)/\RowsB u vs (.way w v L c::U)/\(∀r∈U,UseOf T w v (i+1) r)/\U.Pairwise Apart/\U.length<=2*(i+1)/\Same H u :=
    fun u R U7 _ h2 h3 h4 h5 h6 h7=>⟨_,_,_,R,U7,rfl,h2,h3,h4,h5,h6,h7⟩
   exists _,rfl,_,_,rfl,rfl,Z0,_,_,rfl,rfl,_,rfl,ite2 (fun _=>?_) (fun _=>?_)
   .refine⟨_,rfl,.inl ⟨rfl,_,Qb ad⟩,_,rfl,_,rfl,_,rfl,J,_,_,_,rfl,rfl,Qb j,at_b1 _ _,_,rfl,Z1 5,fun I an=>?_⟩
    have s7:=Qd an (.lst [.str "uses",.str w,.str v,.str b,.int O])
    have Z:upd H6 I (.lst [.str "uses",.str w,.str v,.str b,.int O]) I=some (.lst ((BR.use 0 w v b O).cells.map kV)):=Qc
    generalize upd H6 I (.lst [.str "uses",.str w,.str v,.str b,.int O])=u at s7 Z⊢
    have aa:=s7 _ _ ad
    exists g,_,_,rfl,rfl,aa,Om,?_
    have ab:=((S.same s7).snoc Z).updL (zs:=vs++[.ref I]) aa S.noRow
    have X:upd u g (.lst (vs++[.ref I])) J=some (.lst ((BR.bench b rm).cells.map kV)):=by rw[Qj (Ym (s7 _ _ j) aa fun e=>Qec S.noRow (.bench b rm) (HO.lst.inj e))];exact s7 _ _ j
    have ac:upd u g (.lst (vs++[.ref I])) g=some (.lst (vs++[.ref I])):=Qc
    have s8:Same H (upd u g (.lst (vs++[.ref I]))):=fun c' o e=>by rw[Qj (Qm e gH)];exact(ah.trans s7) _ _ e
    generalize upd u g (.lst (vs++[.ref I]))=H8 at ab X ac s8⊢
    exists _,rfl,J,_,_,_,rfl,rfl,Qb X,Qaa (x:="bench") rfl,rfl,_,rfl,ite2 (fun C=>Y21 C (neS w_bs)) (fun _=>?_)
    exists _,rfl,J,_,_,_,rfl,rfl,Qb X,Qaa (x:="bench") rfl,rfl,_,rfl,ite2 (fun C=>Y21 C (neS w_bs)) (fun _=>?_)
    refine key H8 _ (U++[BR.use 0 w v b O]) X ac ab (fun r D=>?_) (jZb.mpr ⟨W,jKc _ _,fun r D q hq=>?_⟩) (by rw[jZ];show U.length+1<=_;lia) s8
    .rcases kW.mp D with h | h
     .exact(hU r h).mono Om
     .rw[jV.mp h];exists 0,b,O,rfl,ae.1,ae.2,.inl ⟨rfl,i,rm,Om,er⟩
    .rw[jV.mp hq];exact Qbk tT.nd (hU r D) (.inl ⟨rfl,rm,er⟩)
   .refine⟨_,rfl,J,_,_,_,rfl,rfl,Qb j,Qaa (x:="bench") rfl,rfl,_,rfl,ite2 (fun C=>Y21 C (neS w_bs)) (fun _=>?_)⟩
    exists _,rfl,J,_,_,_,rfl,rfl,Qb j,Qaa (x:="bench") rfl,rfl,_,rfl,ite2 (fun C=>Y21 C (neS w_bs)) (fun _=>?_)
    exact key H6 vs U j ad S (fun r D=>(hU r D).mono Om) W Om ah
  |store b rm ff=>
   exists _,rfl,J,_,_,_,rfl,rfl,Qb j,Qaa (x:="store") rfl,rfl,_,rfl,ite2 (fun C=>Y21 C (neS w_sb)) (fun _=>?_)
   have fin:∀(u:Hp) (R:List V) (U7:List BR),u g=some (.lst R)->RowsB u R (.way w v L c::U7)->(∀r∈U7,UseOf T w v (i+1) r)->U7.Pairwise Apart->U7.length<=2*(i+1)->Same H u->∃(zz:Int) (v9 Y:Option V) (vs:List V) (U:List BR),[some (.ref a),some (.int st),some (.int n),some (.str w),some (.str v),some (.ref d),some (.int N),some (.int L),some (.ref g),some (.ref J),some (.int O)]=[some (.ref a),some (.int st),some (.int n),some (.str w),some (.str v),some (.ref d),some (.int zz),some (.int L),some (.ref g),v9,Y]/\u g=some (.lst vs)/\RowsB u vs (.way w v L c::U)/\(∀r∈U,UseOf T w v (i+1) r)/\U.Pairwise Apart/\U.length<=2*(i+1)/\Same H u :=
    fun u R U7 h2 h3 h4 h5 h6 h7=>⟨_,_,_,R,U7,rfl,h2,h3,h4,h5,h6,h7⟩
   exists _,rfl,J,_,_,_,rfl,rfl,Qb j,Qaa (x:="store") rfl,rfl,_,rfl,ite2 (fun _=>?_) (fun C=>Y21 (yesS _) C)
   exists _,rfl,_,_,rfl,rfl,Z0,rfl,_,rfl,ite2 (fun ne=>?_) (fun eq=>?_)
   .obtain⟨kk,aI,k0,k2⟩:=pickTG N
    exists _,rfl,.inl ⟨rfl,_,Qb ad⟩,Z1 2,fun p7 aM=>?_
    have ao:=Qd aM (.lst [.str "takes",.str "gives"])
    have ai:upd H6 p7 (.lst [.str "takes",.str "gives"]) p7=some (.lst [.str "takes",.str "gives"]):=Qc
    generalize upd H6 p7 (.lst [.str "takes",.str "gives"])=H7a at ao ai⊢
    exists _,rfl,_,_,rfl,rfl,Z0,p7,_,_,_,rfl,rfl,Qb ai,aI,_,rfl,_,rfl,_,rfl,J,_,_,_,rfl,rfl,Qb (ao _ _ j),at_s1 _ _ _,_,rfl,Z1 5,fun I an=>?_
    have s7:=ao.trans (Qd an (.lst [.str (useW kk),.str w,.str v,.str b,.int O]))
    have Z:upd H7a I (.lst [.str (useW kk),.str w,.str v,.str b,.int O]) I=some (.lst ((BR.use kk w v b O).cells.map kV)):=Qc
    generalize upd H7a I (.lst [.str (useW kk),.str w,.str v,.str b,.int O])=u at s7 Z⊢
    have aa:=s7 _ _ ad
    exists g,_,_,rfl,rfl,aa,Om,?_
    have ab:=((S.same s7).snoc Z).updL (zs:=vs++[.ref I]) aa S.noRow
    have X:upd u g (.lst (vs++[.ref I])) J=some (.lst ((BR.store b rm ff).cells.map kV)):=by rw[Qj (Ym (s7 _ _ j) aa fun e=>Qec S.noRow (.store b rm ff) (HO.lst.inj e))];exact s7 _ _ j
    have ac:upd u g (.lst (vs++[.ref I])) g=some (.lst (vs++[.ref I])):=Qc
    have s8:Same H (upd u g (.lst (vs++[.ref I]))):=fun c' o e=>by rw[Qj (Qm e gH)];exact(ah.trans s7) _ _ e
    generalize upd u g (.lst (vs++[.ref I]))=H8 at ab X ac s8⊢
    have ar:∀r∈U++[BR.use kk w v b O],UseOf T w v (i+1) r:=fun r D=>by
     rcases kW.mp D with h | h
     .exact(hU r h).mono Om
     .rw[jV.mp h];exists kk,b,O,rfl,ae.1,ae.2,.inr ⟨k0,i,rm,ff,Om,er⟩
    have av:(U++[BR.use kk w v b O]).Pairwise Apart:=jZb.mpr ⟨W,jKc _ _,fun r D q hq=>by
     rw[jV.mp hq];exact Qbk tT.nd (hU r D) (.inr ⟨k0,rm,ff,er⟩)⟩
    have aq:(U++[BR.use kk w v b O]).length=U.length+1:=by rw[jZ];rfl
    exists _,rfl,J,_,_,_,rfl,rfl,Qb X,Qaa (x:="store") rfl,rfl,_,rfl,ite2 (fun _=>?_) (fun C=>Y21 (yesS _) C)
    exists _,rfl,_,_,rfl,rfl,Z0,rfl,_,rfl,ite2 (fun y3=>?_) (fun _=>?_)
    .have e3:N % 4=3:=by
      have:=kZ y3
      injection this
     have aH:kk=2:=k2 Om
     subst aH
     have c0:=jQc (N / 12) (show(99:Int)≠0 by decide)
     have c1:=wQ (N / 12) (show(0:Int)<99 by decide)
     exists _,rfl,.inl ⟨rfl,_,Qb ac⟩,_,rfl,_,rfl,_,rfl,J,_,_,_,rfl,rfl,Qb X,at_s1 _ _ _,_,rfl,_,_,rfl,rfl,⟨Dc,Dc⟩,_,_,rfl,rfl,Z0,_,_,rfl,rfl,Z1 5,fun l9 aK=>?_
     have s9:=Qd aK (.lst [.str "takes",.str w,.str v,.str b,.int (1+N / 12 % 99)])
     have aj:upd H8 l9 (.lst [.str "takes",.str w,.str v,.str b,.int (1+N / 12 % 99)]) l9=some (.lst ((BR.use 1 w v b (1+N / 12 % 99)).cells.map kV)):=Qc
     generalize upd H8 l9 (.lst [.str "takes",.str w,.str v,.str b,.int (1+N / 12 % 99)])=H9 at s9 aj⊢
     have au:=s9 _ _ ac
     exists g,_,_,rfl,rfl,au,by rw[jZ];show vs.length+1<_;lia,?_
     have ay:=((ab.same s9).snoc aj).updL (zs:=vs++[.ref I]++[.ref l9]) au ab.noRow
     refine fin _ _ (U++[BR.use 2 w v b O]++[BR.use 1 w v b (1+N / 12 % 99)]) Qc ay (fun r D=>?_) (jZb.mpr ⟨av,jKc _ _,fun r D q hq=>?_⟩) (by rw[jZ,aq];show U.length+1+1<=_;lia) (fun c' o e=>by rw[Qj (Qm e gH)];exact(s8.trans s9) _ _ e)
     .rcases kW.mp D with h | h
      .exact ar r h
      .rw[jV.mp h];exists 1,b,_,rfl,Om,Om,.inr ⟨Dc,i,rm,ff,Om,er⟩
     .rw[jV.mp hq]
      rcases kW.mp D with h | h
      .exact Qbk tT.nd (hU r h) (.inr ⟨Dc,rm,ff,er⟩)
      .rw[jV.mp h];exact Qcv (Sn "gives" "takes")
    .exact fin H8 _ (U++[BR.use kk w v b O]) ac ab ar av (by rw[aq];lia) s8
   .have e0:N % 4=0:=by
     by_cases e0:N % 4=0
     .exact e0
     .exact Y21 (show(!decide (V.int (N % 4)=V.int 0))=true by rw[Bool.not_eq_true',decide_eq_false_iff_not];intro z';injection z' with z';exact e0 z') eq
    exists _,rfl,J,_,_,_,rfl,rfl,Qb j,Qaa (x:="store") rfl,rfl,_,rfl,ite2 (fun _=>?_) (fun C=>Y21 (yesS _) C)
    exists _,rfl,_,_,rfl,rfl,Z0,rfl,_,rfl,ite2 (fun y3=>?_) (fun _=>?_)
    .have:=kZ y3
     injection this with e3
     lia
    .exact fin H6 vs U ad S (fun r D=>(hU r D).mono Om) W Om ah
 .rintro σ H5 ⟨zz,v9,Y,vs,U,rfl,af,ag,hU,W,ak,s5⟩
  rw[lu]at hU
  exists _,rfl,q g vs _ H5 s5 gH af ag ⟨⟨L,c,U,rfl,az.1,az.2,aB.1,aB.2,hU⟩,jYb.mpr ⟨fun r D=>?_,W⟩,by rw[yQ];lia⟩
  obtain⟨k,t,m',rfl,_⟩:=hU r D
  exact way_apart
abbrev sPut:Stmt:=top 39
def ownN(k:Nat)(ns:List Str):List Str:=if k=9 then ns else if k<=3 then[]else ns.take 1
theorem Quz(r:BR):r.own=ownN r.kind r.names:=by
 cases r with
 |use k w v t m=>
  have a:=k.isLt
  show[w]=ownN (6+k.val) [w,v,t]
  unfold ownN
  rw[Y20 Om,Y20 Om]
  rfl
 |_=>rfl
theorem Qhy{r q:BR}(h:r.key=q.key){w:Str}(c:w∈q.own):w∈r.own:=by
 have d:((inr r.word:Key)::r.names.map inr)=inr q.word::q.names.map inr:=h
 injection d with g a
 have b:r.word=q.word:=Y37 g
 have i:r.names=q.names:=(List.map_inj_right fun x y e=>Y37 e).mp a
 have f:r.kind=q.kind:=Wj _ (Qbh r) _ (Qbh q) (by rw[<-Wi,<-Wi];exact b)
 rw[Quz,i,f,<-Quz]
 exact c
structure WkOk(n:Int)(T:List BR)(nm:List Str)(W:List BR):Prop where
 ok:∀r∈W,r.ok n
 nd:W.Pairwise Apart
 own:∀r∈W,r.own≠[]/\∀w∈r.own,w∈nm
 wk:∀w∈nm,BR.work w∈W
 gn:∀r∈W,r.gn
 ah:Ahead ([.days n]++T) W
def OfWay(w:Str)(j:Nat)(r:BR):Prop:=∃v,fl v<97+j/\((∃l c,r=.way w v l c)\/∃k t m,r=.use k w v t m)
theorem OfWay.own{w:Str}{r:BR}(h:OfWay w j r):r.own=[w]:=by
 obtain⟨v,_,⟨l,c,rfl⟩ | ⟨k,t,m,rfl⟩⟩:=h
 .rfl
 .rfl
theorem OfWay.mono{w:Str}{r:BR}(h:OfWay w i r)(b:i<=j):OfWay w j r:=by
 obtain⟨v,c,a⟩:=h
 exists v,Om,a
theorem Qoq{T:List BR}{w:Str}{R:List BR}{r q:BR}(I:OfWay w j r)(M:fl v=97+j)(hR:WayBlk n T w v R)(A:q∈R):Apart r q:=by
 obtain⟨l,c,U,rfl,_,_,_,_,h⟩:=hR.hd
 obtain⟨f,J,C⟩:=I
 have o:f≠v:=fun z=>by rw[z]at J;lia
 have d:(∃l c,q=.way w v l c)\/∃k t m,q=.use k w v t m:=by
  rcases kK.mp A with e | e
  .exact .inl ⟨l,c,e⟩
  .obtain⟨k,t,m,D,_⟩:=h q e
   exact .inr ⟨k,t,m,D⟩
 have g:∀{a b:Str} {x y:List Key},(inr a::(inr w:Key)::inr f::x)=(inr b::inr w::inr v::y)->False:=fun z=>by
  injection z with _ u
  injection u with _ F
  injection F with B
  injection B with i
  exact o i
 rcases C with⟨P,O,rfl⟩ | ⟨N,L,K,rfl⟩
 .rcases d with⟨G,s,rfl⟩ | ⟨p,E,H,rfl⟩
  .exact .inr (.inr fun z=>g z)
  .exact way_apart
 .rcases d with⟨G,s,rfl⟩ | ⟨p,E,H,rfl⟩
  .exact way_apart.symm
  .exact .inr (.inr fun z=>g z)
theorem blk_of{T:List BR}{w:Str}{R:List BR}(r:fl v=97+j)(hR:WayBlk n T w v R):(∀q∈R,OfWay w (j+1) q)/\∀q∈R,q.ok n:=by
 obtain⟨l,c,U,rfl,o,f,i,g,d⟩:=hR.hd
 exists fun q b=>?_,fun q b=>?_
 .rcases kK.mp b with e | e
  .exact⟨v,Om,.inl ⟨l,c,e⟩⟩
  .obtain⟨k,t,m,a,_⟩:=d q e
   exists v,Om,.inr ⟨k,t,m,a⟩
 .rcases kK.mp b with e | e
  .rw[e];exists o,f,i,g
  .obtain⟨k,t,m,a,h,p,_⟩:=d q e
   rw[a];exists h,p
theorem blk_gn{T:List BR}{w:Str}{R:List BR}(g:ThOk n T)(f:NmOk w)(h:NmOk v)(hR:WayBlk n T w v R):∀q∈R,q.gn:=by
 obtain⟨l,c,U,rfl,_,_,_,_,i⟩:=hR.hd
 intro q o x a
 rcases kK.mp o with e | e
 .rw[e]at a
  rcases kK.mp a with e1 | e1
  .rw[e1];exact f
  .rw[jV.mp e1];exact h
 .obtain⟨k,t,m,e1,_,_,r⟩:=i q e
  have p:NmOk t:=by
   rcases r with⟨_,j,b,_,d⟩ | ⟨_,j,b,s,_,d⟩
   .exact g.gn _ (kY d) t jY
   .exact g.gn _ (kY d) t jY
  rw[e1]at a
  rcases kK.mp a with e2 | e2
  .rw[e2];exact f
  .rcases kK.mp e2 with e3 | e3
   .rw[e3];exact h
   .rw[jV.mp e3];exact p
theorem Qor{S T:List BR}(h:∀r∈T,∀k∈r.needs,Said S k):Ahead S T:=by
 induction T generalizing S with
 |nil=>exact True.intro
 |cons r T ih=>exists h r jY,ih fun q c k b=>(h q (kJ _ c) k b).mono fun x a=>zY _ a
theorem blk_ah{T:List BR}{w:Str}{R S:List BR}(h:∀q∈T,q∈S)(o:BR.work w∈S)(hR:WayBlk n T w v R):Ahead S R:=by
 obtain⟨l,c,U,rfl,_,_,_,_,i⟩:=hR.hd
 exists fun k a=>?_,Qor fun q p k a=>?_
 .rw[jV.mp a]
  exists .work w,o,rfl
 .obtain⟨s,t,m,rfl,_,_,r⟩:=i q p
  rcases r with⟨rfl,j,b,_,d⟩ | ⟨g,j,b,u,_,d⟩
  .rcases kK.mp a with e | e
   .rw[e];exists .way w v l c,yV _ jY,rfl
   .rw[jV.mp e];exists _,zY _ (h _ (kY d)),rfl
  .have f:k∈[[(inr ("way":Str):Key),inr w,inr v],[inr ("store":Str),inr t]]:=by
    match s,g,a with
    |0,g,_=>exact Y21 rfl g
    |1,_,a=>exact a
    |2,_,a=>exact a
   rcases kK.mp f with e | e
   .rw[e];exists .way w v l c,yV _ jY,rfl
   .rw[jV.mp e];exists _,zY _ (h _ (kY d)),rfl
structure BlkOk(n:Int)(T:List BR)(nm:List Str)(w:Str)(W Y:List BR):Prop where
 ok:∀r∈Y,r.ok n
 nd:Y.Pairwise Apart
 own:∀r∈Y,w∈r.own/\∀x∈r.own,x∈nm++[w]
 gn:∀r∈Y,r.gn
 ah:Ahead ([.days n]++T++W) Y
theorem BlkOk.snoc{T:List BR}{w:Str}{W Y:List BR}{r:BR}(h:BlkOk n T nm w W Y)(j:r.ok n)(d:w∈r.own)(i:∀x∈r.own,x∈nm++[w])(f:∀q∈Y,Apart q r)(m:r.gn)(l:∀k∈r.needs,Said ([.days n]++T++W++Y) k):BlkOk n T nm w W (Y++[r]):=by
 exists fun q c=>?_,jZb.mpr ⟨h.nd,jKc _ _,fun a g b e=>?_⟩,fun q c=>?_,fun q c=>?_,h.ah.app (Ahead.one l)
 .rcases kW.mp c with z | z
  .exact h.ok q z
  .rw[jV.mp z];exact j
 .rw[jV.mp e];exact f a g
 .rcases kW.mp c with z | z
  .exact h.own q z
  .rw[jV.mp z];exists d,i
 .rcases kW.mp c with z | z
  .exact h.gn q z
  .rw[jV.mp z];exact m
theorem WkOk.join{T:List BR}{w:Str}{W Y:List BR}(h:WkOk n T nm W)(f:w∉nm)(b:BlkOk n T nm w W Y)(d:BR.work w∈Y):WkOk n T (nm++[w]) (W++Y):=by
 exists fun r a=>?_,jZb.mpr ⟨h.nd,b.nd,fun r a q g=>?_⟩,fun r a=>?_,fun x c=>?_,fun r a=>?_,h.ah.app b.ah
 .rcases kW.mp a with z | z
  .exact h.ok r z
  .exact b.ok r z
 .refine .inr (.inr fun z=>f ?_)
  exact(h.own r a).2 w (Qhy z (b.own q g).1)
 .rcases kW.mp a with z | z
  .exact⟨(h.own r z).1,fun x c=>zY _ ((h.own r z).2 x c)⟩
  .exact⟨fun e=>(by have:=(b.own r z).1;rw[e]at this;exact nomatch this),(b.own r z).2⟩
 .rcases kW.mp c with z | z
  .exact zY _ (h.wk x z)
  .rw[jV.mp z];exact yV _ d
 .rcases kW.mp a with z | z
  .exact h.gn r z
  .exact b.gn r z
theorem Qva:∀{ks ls:List Key},ks.map kV=ls.map kV->ks=ls
 |[],[],_=>rfl
 |[],_::_,h=>nomatch h
 |_::_,[],h=>nomatch h
 |a::ks,b::ls,h=>by
  injection h with d c
  rw[Qva c]
  cases a<;>cases b<;>cases d<;>rfl
def Hit1(q r:BR):Prop:=∃a x:Str,(a="bench"\/a="store"\/a="work")/\q.key=[inr a,inr x]/\x∈r.names
def Hit2(q r:BR):Prop:=∃(w v:Str) (t:List Str),q.key=[inr ("way":Str),inr w,inr v]/\r.names=w::v::t
theorem Qju{q:BR}{a:Str}(h:q.key=inr a::ks):q.word=a:=by
 have b:(inr q.word:Key)::q.names.map inr=inr a::ks:=h
 injection b with c _
 exact Y37 c
theorem Qwx{q r:BR}(h:Hit1 q r):inV (.str q.word) [.str "bench",.str "store",.str "work"]=true:=by
 obtain⟨a,x,b,e,_⟩:=h
 rw[Qju e]
 rcases b with rfl | rfl | rfl<;>decide +kernel
theorem Qbl(r:BR):r.cells.map kV=r.key.map kV++r.nums.map V.int:=by
 unfold BR.cells
 rw[yK,kQa]
 rfl
theorem Qwy{q r:BR}(h:Hit1 q r):∃x:Str,atI (q.cells.map kV) 1=some (.str x)/\x∈r.names:=by
 obtain⟨a,x,c,e,b⟩:=h
 exists x,by rw[Qbl,e];exact Jy (k:=1) rfl,b
theorem Qcy(r:BR):r.cells.map kV=.str r.word::(r.names.map V.str++r.nums.map V.int):=by
 rw[Qbl]
 unfold BR.key
 rw[zX,kQa]
 rfl
theorem cut1{α:Type}(x:V)(xs:List V):cutV (x::xs) (some 1) none=xs:=by
 unfold cutV
 rw[HT.sIx_none,show(1:Int)=((1:Nat):Int)from rfl,HT.sIx_nat,yQ,jQb Om]
 show List.take (xs.length+1-1) xs=xs
 exact zW Om
theorem Qst{r:BR}(h:x∈r.names):inV (.str x) (cutV (r.cells.map kV) (some 1) none)=true:=by
 rw[Qcy,cut1 (α:=V)]
 unfold inV
 rw[jXe]
 exists .str x,zY _ (yZa h),?_
 show(x == x)=true
 exact beq_self_eq_true x
theorem cut13(x:V)(a b:V)(xs:List V):cutV (x::a::b::xs) (some 1) (some 3)=[a,b]:=by
 unfold cutV
 rw[show(1:Int)=((1:Nat):Int)from rfl,show(3:Int)=((3:Nat):Int)from rfl,HT.sIx_nat,HT.sIx_nat,yQ,yQ,yQ,jQb Om,jQb Om]
 rfl
theorem Qjv{q r:BR}(h:Hit2 q r):q.word="way"/\cutV (q.cells.map kV) (some 1) (some 3)=cutV (r.cells.map kV) (some 1) (some 3):=by
 obtain⟨w,v,t,e,a⟩:=h
 exists Qju e,?_
 rw[Qbl q,e,Qcy r,a]
 show cutV (V.str "way" :: V.str w::V.str v::(q.nums.map V.int)) (some 1) (some 3)=cutV (V.str r.word::V.str w::V.str v::(t.map V.str++r.nums.map V.int)) (some 1) (some 3)
 rw[cut13,cut13]
theorem Qsu{q r:BR}(h:q.key∈r.needs):q.key=[inr ("days":Str)]\/Hit1 q r\/Hit2 q r:=by
 have i:∀{k:List Key},q.key∈[k]->q.key=k:=fun z=>jV.mp z
 have j:∀{k l:List Key},q.key∈[k,l]->q.key=k\/q.key=l:=fun z=>by
  rcases kK.mp z with z | z
  .exact .inl z
  .exact .inr (jV.mp z)
 cases r with
 |days n=>exact nomatch h
 |bench b r=>exact .inl (i h)
 |shut b f t=>exact .inr (.inl ⟨"bench",b,.inl rfl,i h,jY⟩)
 |store s m f=>exact .inl (i h)
 |work w=>exact .inl (i h)
 |way w v l c=>exact .inr (.inl ⟨"work",w,.inr (.inr rfl),i h,jY⟩)
 |late w d c=>exact .inr (.inl ⟨"work",w,.inr (.inr rfl),i h,jY⟩)
 |after w x g=>
  rcases j h with e | e
  .exact .inr (.inl ⟨"work",w,.inr (.inr rfl),e,jY⟩)
  .exact .inr (.inl ⟨"work",x,.inr (.inr rfl),e,kJ _ jY⟩)
 |use k w v t m=>
  have p:q.key=[inr ("way":Str),inr w,inr v]\/(∃a:Str,(a="bench"\/a="store"\/a="work")/\q.key=[inr a,inr t]):=by
   match k,h with
   |0,h=>
    rcases j h with e | e
    .exact .inl e
    .exact .inr ⟨"bench",.inl rfl,e⟩
   |1,h=>
    rcases j h with e | e
    .exact .inl e
    .exact .inr ⟨"store",.inr (.inl rfl),e⟩
   |2,h=>
    rcases j h with e | e
    .exact .inl e
    .exact .inr ⟨"store",.inr (.inl rfl),e⟩
  rcases p with e | ⟨a,o,e⟩
  .exact .inr (.inr ⟨w,v,[t],e,rfl⟩)
  .exact .inr (.inl ⟨a,t,o,e,kJ _ (kJ _ jY)⟩)
theorem Qsv{B:List BR}{r:BR}{k:Nat}(m:B[0]?=some (.days n))(o:1<=k)(d:∀j q,B[j]?=some q->Hit1 q r\/Hit2 q r->j<k){κ:List Key}(c:κ∈r.needs)(f:Said B κ):Said (B.take k) κ:=by
 obtain⟨q,l,rfl⟩:=f
 obtain⟨j,b⟩:=jQa.mp l
 have fin:∀(j:Nat) (a:BR),B[j]?=some a->a.key=q.key->j<k->Said (B.take k) q.key:=fun j a e g h=>⟨a,kY (i:=j) (by rw[List.getElem?_take,Y22 h];exact e),g⟩
 rcases Qsu c with e | e
 .exact fin 0 _ m e.symm Om
 .exact fin j q b rfl (d j q b e)
theorem Qaf(ks:List Key)(lo a:Option Int):∃ls:List Key,cutV (ks.map kV) lo a=ls.map kV:=by
 unfold cutV
 rw[jX]
 exists (ks.drop (HT.sIx ks.length 0 lo)).take (HT.sIx ks.length ks.length a-HT.sIx ks.length 0 lo),by rw[kXe,List.map_drop]
theorem flat_keys(ks:List Key):(ks.map kV).all Vm=true:=by
 rw[jYc]
 intro v a
 obtain⟨k,_,rfl⟩:=zK.mp a
 exact Qad k
theorem in3{a b c:Str}{r:BR}(h:inV (.str r.word) [.str a,.str b,.str c]=true):a=r.word\/b=r.word\/c=r.word:=by
 have d:(a == r.word||(b == r.word||(c == r.word||false)))=true:=h
 simp only[yXd,beq_iff_eq,jJf,or_false]at d
 exact d
theorem cell1{r:BR}(h:("bench":Str)=r.word\/("store":Str)=r.word\/("work":Str)=r.word):∃x:Str,atI (r.cells.map kV) 1=some (.str x):=by
 cases r with
 |days n=>
  rcases h with h | h | h
  .exact Y21 h (Sn "bench" "days")
  .exact Y21 h (Sn "store" "days")
  .exact Y21 h (Sn "work" "days")
 |bench b r=>exists b,rfl
 |shut b f t=>exists b,rfl
 |store s m f=>exists s,rfl
 |work w=>exists w,rfl
 |way w v l c=>exists w,rfl
 |use k w v t m=>exists w,rfl
 |after w x g=>exists w,rfl
 |late w d c=>exists w,rfl
theorem Qhz{t1 t2:TS}(a:St->Hp->Prop)(b:∀σ' H',a σ' H'->t2 D σ' H')(c:(∀σ' H',a σ' H'->t2 D σ' H')->t1 { D with nx:=t2 D } σ H):tSeq t1 t2 D σ H:=c b
inductive spPut(K:Fg)(vs:List V)(H:Hp)(Q:VK)(E:XK):Prop|mk(d l:Addr)(z:Int)(us:List V)(B:List BR)(r:BR)(_:vs=[.ref d,.ref l,.int z])(_:H d=some (.lst us))(_:RowsB H us B)(_:1<=B.length)(_:B.length<=1000)(_:H l=some (.lst (r.cells.map kV)))(_:∀(g:Addr) (k:Nat) (H':Hp),1<=k->k<=B.length->(∀j q,B[j]?=some q->Hit1 q r\/Hit2 q r->j<k)->Same H H'->H g=none->H' g=some (.lst (us.take k++[.ref l]++us.drop k))->Q (.ref g) H'):spPut K vs H Q E
theorem scPut:FnScope ["_law_rows","_law_row","_law_number","_law_least","_law_k","_law_at"] ["_law_rows","_law_row","_law_number"] (Qh sPut):=Sc
theorem okPut(F:Fn K mg "_law_put" sPut)(M:Mg mg):Cal P w K mg base 1 "_law_put" ["_law_rows","_law_row","_law_number"] (spPut K):=by
 refine Xv F scPut (a:=fun f av A ae s H vs Q E hr h=>?_)
 obtain⟨d,l,z,a,B,r,rfl,T,hB,b1,b2,hl,q⟩:=h
 have ad:=Z6 6 hr.un
 refine⟨_,(Qg (Z4 3 scPut.nd Qe)
  (Qg (Yb Y33 rfl (Xs rfl M.range_ (Qa (Qr Qu rfl M.len Xr (Qa (pv 0) Qf)) Qf)) (Z3 4 scPut.nd) (Qg (Xp (PW.pt (Zd (Ql Vo (Qs Qn (Qs Qn (pv 0) (pv 4)) Qe) (Xg (Qa Qq (Qa Qq (Qa Qq Qf)))) rfl) (Ys (Ql Vo (Qs Qn (Qs Qn (pv 0) (pv 4)) Qe) (Xc Jh (pv 1) (Xe Qe) Xn) rfl)))) (Qi (Z4 3 scPut.nd (Qk Qy (pv 4) Qe))) Qv)
  (Qi (Xp (PW.pt (Zd (Ql Ye (Qs Qn (Qs Qn (pv 0) (pv 4)) Qe) Qq (Qp _)) (Ys (Ql (Qjm (K:=K) (n:=6) rfl ad) (Xc Jh (Qs Qn (pv 0) (pv 4)) (Xe Qe) (Xe Qe)) (Xc Jh (pv 1) (Xe Qe) (Xe Qe)) (Qp _))))) (Qi (Z4 3 scPut.nd (Qk Qy (pv 4) Qe))) Qv))))
  (Qg (Z4 5 scPut.nd (Qk Qy (pv 3) (Qk Xf (pv 2) (Qk Qy (Qk Qal (Qr Qu rfl M.len Xr (Qa (pv 0) Qf)) (pv 3)) Qe))))
  (Qi (Qx (Qk Kr (Qk Kr (Xc Jh (pv 0) Xn (Xe (pv 5))) (Xg (Qa (pv 1) Qf))) (Xc Jh (pv 0) (Xe (pv 5)) Xn))))))),?_⟩
 refine Km ?_;intros
 exists"z"
 have lu:=hB.length
 let ak:Nat->St->Hp->Prop:=fun i σ H1=>∃(e:Nat) (v5 Z:Option V),σ=[some (.ref d),some (.ref l),some (.int z),some (.int ((e:Nat):Int)),v5,Z]/\1<=e/\e<=B.length/\(∀j q,j<i->B[j]?=some q->Hit1 q r\/Hit2 q r->j<e)/\Same H H1
 exists _,rfl,d,_,rfl,.inl (Qb T),_,rfl,Om,Om,Xy (lo:=0) (n:=Int.toNat ((a.length:Nat):Int)) ak ⟨1,none,none,rfl,jJ _,b1,fun _ _ h=>Y21 h (kQd _),Same.refl _⟩ ?_ ?_
 .rintro i σ H1 hi ⟨e,v5,Z,rfl,e1,e2,eh,m⟩
  have ac:i<a.length:=Om
  obtain⟨D,U,er,ev,hr⟩:=(hB.same m).get (gE ac)
  have ai:atI a (0+(i:Int))=some (.ref U):=by
   rw[show(0:Int)+(i:Int)=((i:Nat):Int)by lia]
   exact Jy (by rw[gE ac,ev])
  have si:(0:Int)+(i:Int)+1=((i+1:Nat):Int):=Om
  refine Qhz (fun ab H'=>∃(b:Nat) (Z:Option V),ab=[some (.ref d),some (.ref l),some (.int z),some (.int ((b:Nat):Int)),some (.int (0+(i:Int))),Z]/\1<=b/\b<=B.length/\((∀j q,j<i->B[j]?=some q->Hit1 q r\/Hit2 q r->j<b)/\(Hit1 D r->i<b))/\Same H1 H') ?_ fun REST=>?_
  .rintro ab H2 ⟨b,aw,rfl,W,X,⟨ao,af⟩,C⟩
   have al:∀J:Nat,i<J->∀j q,j<i+1->B[j]?=some q->Hit1 q r\/Hit2 q r->j<J:=fun J h5 j q h6 _ _=>Om
   have v:(Hit2 D r->False)->∀j q,j<i+1->B[j]?=some q->Hit1 q r\/Hit2 q r->j<b:=fun no j q h6 e6 h7=>by
    by_cases h8:j<i
    .exact ao j q h8 e6 h7
    .have e8:j=i:=Om
     subst e8
     rw[er]at e6
     cases e6
     rcases h7 with h7 | h7
     .exact af h7
     .exact Y21 h7 no
   have O:=C _ _ hr
   have aa:=(m.trans C) _ _ T
   have aq:=(m.trans C) _ _ hl
   exists _,rfl,_,rfl,d,_,_,_,rfl,rfl,Qb aa,ai,U,_,_,_,rfl,rfl,Qb O,Yl _,rfl,_,rfl,ite2 (fun _=>?_) (fun n1=>?_)
   .refine⟨_,rfl,_,rfl,d,_,_,_,rfl,rfl,Qb aa,ai,_,rfl,_,rfl,U,_,rfl,Qb O,fun p Y=>?_⟩
    have G:Hit2 D r->cutV (D.cells.map kV) (some 1) (some 3)=cutV (r.cells.map kV) (some 1) (some 3):=fun h=>(Qjv h).2
    obtain⟨ks,ek⟩:=Qaf D.cells (some 1) (some 3)
    rw[ek]at G⊢
    have t:=Qd Y (.lst (ks.map kV))
    exists _,rfl,_,rfl,_,rfl,l,_,rfl,Qb (t _ _ aq),fun p' N=>?_
    obtain⟨R,el⟩:=Qaf r.cells (some 1) (some 3)
    rw[el]at G⊢
    have u:=Qd N (.lst (R.map kV))
    exists p,p',ks,R,rfl,rfl,Qb (u _ _ Qc),Qb Qc,fun c hc=>⟨_,rfl,ite2 (fun _=>?_) (fun n2=>?_)⟩
    .refine⟨_,rfl,_,_,rfl,rfl,?_⟩
     dsimp only
     rw[si]
     exists i+1,_,_,rfl,Om,Om,al _ Om,((m.trans C).trans t).trans u
    .exact⟨b,_,_,rfl,W,X,v (fun h=>n2 (hc.mpr (Qva (G h)))),((m.trans C).trans t).trans u⟩
   .exact⟨b,_,_,rfl,W,X,v (fun h=>n1 (by rw[(Qjv h).1];exact yesS _)),m.trans C⟩
  .refine⟨_,rfl,_,rfl,d,_,_,_,rfl,rfl,Qb (m _ _ T),ai,U,_,_,_,rfl,rfl,Qb hr,Yl _,Z1 3,fun p Y=>?_⟩
   have t:=Qd Y (.lst [.str "bench",.str "store",.str "work"])
   have ar:=t _ _ hr
   have ag:=(m.trans t) _ _ T
   have an:=(m.trans t) _ _ hl
   exists p,_,rfl,.inl (Qb Qc),rfl,rfl,_,rfl,ite2 (fun y=>?_) (fun n1=>?_)
   .obtain⟨x,ex⟩:=cell1 (in3 y)
    exists _,rfl,_,rfl,d,_,_,_,rfl,rfl,Qb ag,ai,U,_,_,_,rfl,rfl,Qb ar,ex,_,rfl,_,rfl,l,_,rfl,Qb an,fun p' N=>?_
    have S:Hit1 D r->inV (.str x) (cutV (r.cells.map kV) (some 1) none)=true:=fun h=>by
     obtain⟨x',e5,h5⟩:=Qwy h
     rw[e5]at ex
     cases ex
     exact Qst h5
    obtain⟨R,el⟩:=Qaf r.cells (some 1) none
    rw[el]at S⊢
    have u:=t.trans (Qd N (.lst (R.map kV)))
    exists p',_,rfl,.inl (Qb Qc),rfl,flat_keys R,_,rfl,ite2 (fun _=>?_) (fun n2=>?_)
    .refine⟨_,rfl,_,_,rfl,rfl,?_⟩
     dsimp only
     rw[si]
     exact REST _ _ ⟨i+1,_,rfl,Om,Om,⟨fun j q h6 _ _=>Om,fun _=>Om⟩,u⟩
    .exact REST _ _ ⟨e,_,rfl,e1,e2,⟨eh,fun h=>Y21 (S h) n2⟩,u⟩
   .exact REST _ _ ⟨e,_,rfl,e1,e2,⟨eh,fun h=>Y21 (Qwx h) n1⟩,t⟩
 .rintro σ H1 ⟨e,v5,Z,rfl,e1,e2,eh,m⟩
  have L:=m _ _ T
  have p0:(0:Int)<((a.length:Nat):Int)-((e:Nat):Int)+1:=Om
  have m0:=jQc z (yXa p0)
  have m1:=wQ z p0
  exists _,rfl,_,rfl,_,rfl,d,_,rfl,.inl (Qb L),_,rfl,_,_,rfl,rfl,_,_,rfl,rfl,_,_,rfl,rfl,p0,_,_,rfl,rfl,?_
  obtain⟨k,ek⟩:∃k:Nat,((e:Nat):Int)+z % (((a.length:Nat):Int)-((e:Nat):Int)+1)=((k:Nat):Int):=⟨(((e:Nat):Int)+z % (((a.length:Nat):Int)-((e:Nat):Int)+1)).toNat,Om⟩
  have k1:1<=k/\k<=a.length:=Om
  have ap:e<=k:=Om
  dsimp only
  rw[ek]
  have c1:cutV a none (some ((k:Nat):Int))=a.take k:=by
   unfold cutV
   rw[HT.sIx_none,HT.sIx_nat,jQb k1.2,jJb,kYe]
  have c2:cutV a (some ((k:Nat):Int)) none=a.drop k:=by
   unfold cutV
   rw[HT.sIx_none,HT.sIx_nat,jQb k1.2,<-jXb,yW]
  exists _,rfl,_,rfl,_,rfl,d,_,rfl,Qb L,fun p Y=>?_
  rw[c1]
  have C:=Qd Y (.lst (a.take k))
  exists _,rfl,Z1 1,fun p2 ah=>?_
  have t:=Qd ah (.lst [.ref l])
  exists p,p2,_,_,rfl,rfl,t _ _ Qc,Qc,by rw[zZ];show min k a.length+1<=_;lia,fun p3 am=>?_
  have u:=Qd am (.lst (a.take k++[.ref l]))
  have I:=(C.trans t).trans u
  exists _,rfl,_,rfl,_,rfl,d,_,rfl,Qb (I _ _ L),fun p4 aj=>?_
  rw[c2]
  have s5:=Qd aj (.lst (a.drop k))
  exists p3,p4,_,_,rfl,rfl,s5 _ _ Qc,Qc,by rw[jZ,zZ,jXb];show min k a.length+1+_<=_;lia,fun g hg=>?_
  have s6:=Qd hg (.lst (a.take k++[.ref l]++a.drop k))
  have au:=m.trans ((I.trans s5).trans s6)
  have gH:H g=none:=by
   cases e5:H g with
   |none=>rfl
   |some o=>rw[(m.trans (I.trans s5)) _ _ e5]at hg;cases hg
  exact q g k _ k1.1 Om (fun j D ej h=>xW (eh j D (by have:=(jK.mp ej).1;lia) ej h) ap) au gH Qc
abbrev Qjw:Stmt:=top 38
theorem pick8{a b d e f g h:Int}:∃m:Int,atI [V.int a,V.int b,V.int c,V.int d,V.int e,V.int f,V.int g,V.int h] (z % 8)=some (.int m)/\(m=a\/m=b\/m=c\/m=d\/m=e\/m=f\/m=g\/m=h):=by
 rcases(show z % 8=0\/z % 8=1\/z % 8=2\/z % 8=3\/z % 8=4\/z % 8=5\/z % 8=6\/z % 8=7 by lia)with q | q | q | q | q | q | q | q<;>rw[q]
 .exact⟨a,rfl,Om⟩
 .exact⟨b,rfl,Om⟩
 .exact⟨c,rfl,Om⟩
 .exact⟨d,rfl,Om⟩
 .exact⟨e,rfl,Om⟩
 .exact⟨f,rfl,Om⟩
 .exact⟨g,rfl,Om⟩
 .exact⟨h,rfl,Om⟩
theorem Qls{r:BR}(h:r.nums≠[]):r.cells.map kV≠nm.map V.str:=fun e=>by
 obtain⟨z,a,c⟩:∃z a,r.nums=z::a:=by
  cases f:r.nums with
  |nil=>exact Y21 f h
  |cons z a=>exists z,a,rfl
 have b:V.int z∈r.cells.map kV:=by
  unfold BR.cells
  rw[c,yK]
  exact yV _ jY
 rw[e]at b
 obtain⟨x,_,d⟩:=zK.mp b
 cases d
theorem Qsw{T:List BR}{w:Str}{R:List BR}(hR:WayBlk n T w v R):∀q∈R,q.nums≠[]:=fun q d=>by
 obtain⟨l,c,U,rfl,_,_,_,_,b⟩:=hR.hd
 rcases kK.mp d with e | e
 .rw[e];exact fun z=>nomatch z
 .obtain⟨k,t,m,a,_⟩:=b q e
  rw[a];exact fun z=>nomatch z
theorem RowsB.mem{B:List BR}(h:RowsB H vs B){l:Addr}(d:V.ref l∈vs):∃r∈B,H l=some (.lst (r.cells.map kV)):=by
 obtain⟨i,e⟩:=jQa.mp d
 obtain⟨r,f,a,c,b⟩:=h.get e
 cases c
 exists r,kY a,b
theorem Qjx{t1 t2:TS}{x:V}(a:St->Hp->Prop)(b:∀σ' H',a σ' H'->t2 D σ' H')(c:(∀σ' H',a σ' H'->t2 D σ' H')->t1 { D with nx:=t2 D } (σ.set i (some x)) H):Vl i x σ H ({ D with nx:=tSeq t1 t2 D }:Ends).nx:=c b
inductive Qos(K:Fg)(vs:List V)(H:Hp)(Q:VK)(E:XK):Prop|mk(a d:Addr)(ns:List Int)(n:Int)(us:List V)(T:List BR)(_:vs=[.ref a,.int n,.ref d])(_:SqL K H a (ns.map V.int))(_:1<=n)(_:n<=12)(_:SqL K H d us)(_:RowsB H us T)(_:ThOk n T)(_:T.length<=11)(_:∀(g:Addr) (vs:List V) (nm:List Str) (W:List BR) (H':Hp),Same H H'->H g=none->H' g=some (.lst vs)->RowsB H' vs W->WkOk n T nm W->W.length<=370->nm.length<=5->Q (.ref g) H'):Qos K vs H Q E
theorem scWorks:FnScope ["_law_script","_law_days","_law_things_here","_law_found","_law_names","_law_many_here","_law_k","_law_work","_law_number","_law_j","_law_rows","_law_pair"] ["_law_script","_law_days","_law_things_here"] (Qh Qjw):=Sc
theorem Qwz(F:Fn K mg "_law_works" Qjw)(M:Mg mg)(J:Cal P w K mg base 2 "_law_mixed" ["_law_script","_law_k"] (Kb K))(Z:Cal P w K mg base 3 "_law_name" ["_law_script","_law_k","_law_first"] (Qop K))(aE:Cal P w K mg base 3 "_law_way" ["_law_script","_law_start","_law_days","_law_work","_law_way_here","_law_things_here"] (spWay K)):Cal P w K mg base 4 "_law_works" ["_law_script","_law_days","_law_things_here"] (Qos K):=by
 refine Xv F scWorks (a:=fun f b5 A bJ s H D Q E B h=>?_)
 obtain⟨a,d,ns,n,us,T,rfl,hS,n1,bZ,hd,hT,tT,tl,q⟩:=h
 refine⟨_,(Qg (Z4 3 scWorks.nd (Xg Qf))
  (Qg (Z4 4 scWorks.nd (Xg Qf))
  (Qg (Z4 5 scWorks.nd Qe)
  (Qg (Yb Y33 rfl (Xs rfl M.range_ (Qa (Qs Qn (Xg (Qa Qe (Qa Qe (Qa Qe (Qa Qe (Qa Qe (Qa Qe (Qa Qe (Qa Qe Qf))))))))) (Qk Xf (Xk J (B.mono Dc) (Qa (pv 0) (Qa Qe Qf))) Qe)) Qf)) (Z3 6 scWorks.nd) (Qg (Z4 7 scWorks.nd (Xk Z (B.mono Dc) (Qa (pv 0) (Qa (Qk Qy Qe (Qk Zy Qe (pv 6))) (Qa (pv 6) Qf)))))
  (Qg (Yj (Yt Y1 Y2 Y3 Xq (pv 4) (Qa (pv 7) Qf)))
  (Qg (Yj (Yt Y1 Y2 Y3 Xq (pv 3) (Qa (Xg (Qa Qq (Qa (pv 7) Qf))) Qf)))
  (Qg (Z4 8 scWorks.nd (Xk J (B.mono Dc) (Qa (pv 0) (Qa (Qk Qy Qe (pv 6)) Qf))))
  (Qg (Yb Y33 rfl (Xs rfl M.range_ (Qa (Qs Qn (Xg (Qa Qe (Qa Qe (Qa Qe (Qa Qe (Qa Qe (Qa Qe (Qa Qe (Qa Qe Qf))))))))) (Qk Xf (pv 8) Qe)) Qf)) (Z3 9 scWorks.nd) (Qg (Z4 10 scWorks.nd (Xk aE (B.mono Dc) (Qa (pv 0) (Qa (Qk Qy (Qk Qy Qe (Qk Zy Qe (pv 6))) (Qk Zy Qe (pv 9))) (Qa (pv 1) (Qa (pv 7) (Qa (Xk Z (B.mono Dc) (Qa (pv 0) (Qa (Qk Qy (Qk Qy Qe (Qk Zy Qe (pv 6))) (Qk Zy Qe (pv 9))) (Qa (pv 9) Qf)))) (Qa (pv 2) Qf))))))))
  (Qi (Xp (Ql Wz (Qk Qy (Qk Qal (Qk Qy (pv 5) (pv 1)) (Qs Qn (Qs Qn (pv 10) Qe) Qe)) Qe) Qe (Qp _)) (Qg (Z4 5 scWorks.nd (Qk Qy (Qk Qal (Qk Qy (pv 5) (pv 1)) (Qs Qn (Qs Qn (pv 10) Qe) Qe)) Qe))
  (Qi (Z4 3 scWorks.nd (Qk Kr (pv 3) (pv 10))))) Qv))))
  (Qg (Xp (Ql Ye (Qk Xf (Qk Xt (pv 8) Qe) Qe) Qe (Qp _)) (Qi (Yj (Yt Y1 Y2 Y3 Xq (pv 3) (Qa (Xg (Qa Qq (Qa (pv 7) (Qa (Qk Xf (Qk Xt (pv 8) Qe) (Qk Qy (pv 1) Qe)) (Qa (Qk Qy Qe (Qk Xf (Qk Xt (pv 8) Qe) Qe)) Qf))))) Qf)))) Qv)
  (Qi (Xp (PW.pt (Zd (Ql Qcj (pv 6) Qe (Qp _)) (Ys (Ql Qcj (Qk Xf (Qk Xt (pv 8) Qe) Qe) Qe (Qp _))))) (Qg (Z4 11 scWorks.nd (Xg (Qa (Qs Qn (pv 4) (Qk Xf (Qk Xt (pv 8) Qe) (pv 6))) (Qa (pv 7) Qf))))
  (Qg (Xp (Ql Ye (Qk Xf (Qk Xt (pv 8) Qe) Qe) Qe (Qp _)) (Qi (Yj (Quu Y1 PySem.F.slot_list_reverse PySem.F.type_list_reverse Qlk (pv 11)))) Qv)
  (Qi (Yj (Yt Y1 Y2 Y3 Xq (pv 3) (Qa (Xg (Qa Qq (Qa (Qs Qn (pv 11) Qe) (Qa (Qs Qn (pv 11) Qe) (Qa (Qk Xf (Qk Xt (pv 8) Qe) (Qr (Qan rfl) rfl M.min Qnp (Qa (Qk Qy (pv 1) Qe) (Qa Qe Qf)))) Qf))))) Qf)))))) Qv)))))))))
  (Qi (Qx (pv 3))))))),?_⟩
 refine Qae ?_;intros
 exists"z"
 have up:∀{Hy Hz:Hp} {g:Addr},Hz g=none->Same Hy Hz->Hy g=none:=fun{Hy Hz g} h s=>by
  cases e5:Hy g with
  |none=>rfl
  |some o=>rw[s _ _ e5]at h;cases h
 exists Z1 0,fun g0 bB=>?_
 have a9:=Qd bB (.lst [])
 have a4:upd H g0 (.lst []) g0=some (.lst []):=Qc
 generalize upd H g0 (.lst [])=Ha at a9 a4⊢
 exists Z1 0,fun N hN=>?_
 have NH:H N=none:=up hN a9
 have bS:g0≠N:=Qm a4 hN
 have sb:=Qd hN (.lst [])
 have s0:=a9.trans sb
 have bg:=sb _ _ a4
 have bb:upd Ha N (.lst []) N=some (.lst []):=Qc
 generalize upd Ha N (.lst [])=H0 at s0 bg bb⊢
 clear sb
 exists Z1 8,fun p hp=>?_
 have s1:=Qd hp (.lst [.int 0,.int 1,.int 2,.int 2,.int 3,.int 3,.int 4,.int 5])
 have bu:upd H0 p (.lst [.int 0,.int 1,.int 2,.int 2,.int 3,.int 3,.int 4,.int 5]) p=some (.lst [.int 0,.int 1,.int 2,.int 2,.int 3,.int 3,.int 4,.int 5]):=Qc
 generalize upd H0 p (.lst [.int 0,.int 1,.int 2,.int 2,.int 3,.int 3,.int 4,.int 5])=H0p at s1 bu⊢
 exists _,rfl,a,ns,2,rfl,(s0.trans s1).seq hS,Dc,Dc,fun z z0 z1=>?_
 obtain⟨m,em,hm⟩:=pick8 (a:=0) (b:=1) (c:=2) (d:=2) (e:=3) (f:=3) (g:=4) (h:=5) (z:=z)
 have ce:0<=m/\m<=5:=Om
 let b2:Nat->St->Hp->Prop:=fun i σ H1=>∃(v6 v7 v8 v9 G I:Option V) (g:Addr) (my:Int) (D:List V) (W:List BR) (u:List Str),σ=[some (.ref a),some (.int n),some (.ref d),some (.ref g),some (.ref N),some (.int my),v6,v7,v8,v9,G,I]/\H1 g=some (.lst D)/\H g=none/\g≠N/\RowsB H1 D W/\H1 N=some (.lst (u.map V.str))/\V.ref N∉D/\WkOk n T u W/\u.length=i/\(∀j x,u[j]?=some x->fl x=97+j)/\W.length<=73*i/\Same H H1
 exists _,_,rfl,rfl,Z0,p,_,_,_,rfl,rfl,Qb bu,em,m,rfl,Om,Om,Xy (lo:=0) (n:=m.toNat) b2 ⟨none,none,none,none,none,none,g0,0,[],[],[],rfl,s1 _ _ bg,bB,bS,.nil,s1 _ _ bb,fun h=>(nomatch h),⟨fun _ h=>(nomatch h),.nil,fun _ h=>(nomatch h),fun _ h=>(nomatch h),fun _ h=>(nomatch h),True.intro⟩,rfl,fun _ _ h=>(nomatch h),wJ _,s0.trans s1⟩ ?_ ?_
 .rintro i σ H1 hi ⟨v6,v7,v8,v9,G,I,g,my,D,W,u,rfl,a8,gH,gN,aw,bc,a6,hW,bz,aI,bj,aJ⟩
  have cj:i<5:=Om
  have lv:=aw.length
  exists _,rfl,_,rfl,_,_,rfl,rfl,mulC _ _ Dc Dc,_,_,rfl,rfl,_,rfl,a,ns,_,_,rfl,aJ.seq hS,Om,Om,Om,Om,fun w H2 hw aD s2=>?_
  have bx:fl w=97+i:=by rw[hw];lia
  have wn:w∉u:=fun hm=>by
   obtain⟨j,ej⟩:=jQa.mp hm
   have h5:=aI j w ej
   have h6:=(jK.mp ej).1
   lia
  have bF:=s2 _ _ bc
  exists _,rfl,.inl ⟨rfl,_,Qb bF⟩,_,rfl,N,_,_,rfl,rfl,bF,by rw[jX];lia,?_
  have aS:upd H2 N (.lst (u.map V.str++[.str w])) N=some (.lst ((u++[w]).map V.str)):=by rw[Qc,yK];rfl
  have aU:upd H2 N (.lst (u.map V.str++[.str w])) g=some (.lst D):=by rw[Qj gN];exact s2 _ _ a8
  have a1:RowsB (upd H2 N (.lst (u.map V.str++[.str w]))) D W:=(aw.same s2).imp fun l r hm z=>by
   rw[Qj (fun e=>a6 (by rw[<-e];exact hm))];exact z
  have s3:Same H (upd H2 N (.lst (u.map V.str++[.str w]))):=fun c o e=>by rw[Qj (Qm e NH)];exact(aJ.trans s2) _ _ e
  generalize upd H2 N (.lst (u.map V.str++[.str w]))=H3 at aS aU a1 s3⊢
  exists _,rfl,.inl ⟨rfl,_,Qb aU⟩,_,rfl,Z1 2,fun l hl=>?_
  have lN:l≠N:=fun e=>by rw[e,aS]at hl;cases hl
  have s4:=Qd hl (.lst [.str "work",.str w])
  have bs:upd H3 l (.lst [.str "work",.str w]) l=some (.lst ((BR.work w).cells.map kV)):=Qc
  generalize upd H3 l (.lst [.str "work",.str w])=H4 at s4 bs⊢
  have bC:=s4 _ _ aU
  exists g,_,_,rfl,rfl,bC,Om,?_
  have ba:RowsB (upd H4 g (.lst (D++[.ref l]))) (D++[.ref l]) (W++[BR.work w]):=((a1.same s4).snoc bs).updL bC a1.noRow
  have bG:upd H4 g (.lst (D++[.ref l])) g=some (.lst (D++[.ref l])):=Qc
  have bh:upd H4 g (.lst (D++[.ref l])) N=some (.lst ((u++[w]).map V.str)):=by rw[Qj gN.symm];exact s4 _ _ aS
  have s5:Same H (upd H4 g (.lst (D++[.ref l]))):=fun c o e=>by rw[Qj (Qm e gH)];exact(s3.trans s4) _ _ e
  have bU:V.ref N∉D++[.ref l]:=fun h=>by
   rcases kW.mp h with h | h
   .exact a6 h
   .have h2:=jV.mp h
    injection h2 with h3
    exact lN h3.symm
  generalize upd H4 g (.lst (D++[.ref l]))=H5 at ba bG bh s5⊢
  exists _,rfl,_,rfl,_,_,rfl,rfl,a,ns,_,rfl,s5.seq hS,Om,Om,fun C ca ci=>?_
  exists Z1 8,fun p6 bP=>?_
  have s6:=Qd bP (.lst [.int 1,.int 1,.int 2,.int 2,.int 2,.int 3,.int 3,.int 0])
  have aO:upd H5 p6 (.lst [.int 1,.int 1,.int 2,.int 2,.int 2,.int 3,.int 3,.int 0]) p6=some (.lst [.int 1,.int 1,.int 2,.int 2,.int 2,.int 3,.int 3,.int 0]):=Qc
  generalize upd H5 p6 (.lst [.int 1,.int 1,.int 2,.int 2,.int 2,.int 3,.int 3,.int 0])=H5p at s6 aO⊢
  obtain⟨m2,b0,cd⟩:=pick8 (a:=1) (b:=1) (c:=2) (d:=2) (e:=2) (f:=3) (g:=3) (h:=0) (z:=C)
  have b4:0<=m2/\m2<=3:=Om
  let bd:Nat->St->Hp->Prop:=fun j σ H6=>∃(v9 G I:Option V) (g:Addr) (my:Int) (D:List V) (Y:List BR),σ=[some (.ref a),some (.int n),some (.ref d),some (.ref g),some (.ref N),some (.int my),some (.int (0+(i:Int))),some (.str w),some (.int C),v9,G,I]/\H6 g=some (.lst D)/\H g=none/\g≠N/\RowsB H6 D (W++BR.work w::Y)/\H6 N=some (.lst ((u++[w]).map V.str))/\V.ref N∉D/\(∀r∈Y,OfWay w j r)/\((∀r∈Y,r.ok n)/\(∀r∈Y,r.gn)/\Ahead ([.days n]++T++W++[.work w]) Y)/\Y.Pairwise Apart/\Y.length<=23*j/\Same H H6
  exists _,rfl,_,_,rfl,rfl,Z0,p6,_,_,_,rfl,rfl,Qb aO,b0,m2,rfl,Om,Om,Xy (lo:=0) (n:=m2.toNat) bd ⟨_,_,_,g,my,_,[],rfl,s6 _ _ bG,gH,gN,ba.same s6,s6 _ _ bh,bU,fun _ h=>(nomatch h),⟨fun _ h=>(nomatch h),fun _ h=>(nomatch h),True.intro⟩,.nil,wJ _,s5.trans s6⟩ ?_ ?_
  .rintro j σ H6 hj ⟨a2,ag,am,g6,aF,af,Y,rfl,aq,al,ak,O,an,ah,hY,⟨au,aG,az⟩,aA,bR,S⟩
   have b6:j<3:=Om
   have aB:=O.length
   rw[jZ,yQ]at aB
   exists _,rfl,_,rfl,_,_,rfl,rfl,mulC _ _ Dc Dc,_,_,rfl,rfl,_,rfl,_,_,rfl,rfl,mulC _ _ Dc Dc,_,_,rfl,rfl,_,rfl,_,rfl,_,rfl,_,rfl,_,_,rfl,rfl,mulC _ _ Dc Dc,_,_,rfl,rfl,_,rfl,_,_,rfl,rfl,mulC _ _ Dc Dc,_,_,rfl,rfl,_,rfl,a,ns,_,_,rfl,S.seq hS,Om,Om,Om,Om,fun v H7 hv bM s7=>?_
   have br:fl v=97+j:=by rw[hv];lia
   exists _,rfl,a,d,ns,_,n,w,v,us,T,rfl,(S.trans s7).seq hS,Om,Om,n1,bZ,(S.trans s7).seq hd,hT.same (S.trans s7),tT,tl,fun gr vr R H8 s8 b7 a5 aC hR=>?_
   have ai:=s7.trans s8
   have aW:=S.trans ai
   have bw:=ai _ _ aq
   have aH:=ai _ _ an
   obtain⟨L,c,U,eR,_⟩:=hR.hd
   have bn:=aC.length
   obtain⟨v0,bD⟩:∃v0,vr[0]?=some v0:=⟨_,gE (by rw[bn,eR];exact Nat.zero_lt_succ _)⟩
   obtain⟨r0,lr,bt,rfl,bp⟩:=aC.get bD
   rw[eR]at bt
   cases bt
   have a0:atI vr 0=some (.ref lr):=Jy (k:=0) bD
   have a3:atI ((BR.way w v L c).cells.map kV) 3=some (.int L):=rfl
   obtain⟨bo,bk⟩:=blk_of br hR
   exists _,rfl,_,rfl,_,_,rfl,rfl,_,rfl,gr,_,_,_,rfl,rfl,Qb a5,a0,lr,_,_,_,rfl,rfl,Qb bp,a3,_,_,rfl,rfl,_,_,rfl,rfl,_,_,rfl,rfl,_,rfl,ite2 (fun _=>?_) (fun _=>?_)
   .refine⟨_,rfl,_,rfl,_,_,rfl,rfl,_,rfl,gr,_,_,_,rfl,rfl,Qb a5,a0,lr,_,_,_,rfl,rfl,Qb bp,a3,_,_,rfl,rfl,_,_,rfl,rfl,?_⟩
    have lR:=hR.len
    exists _,rfl,_,rfl,g6,gr,_,_,rfl,rfl,bw,a5,by rw[aB,bn];lia,fun p8 aV=>?_
    have s9:=Qd aV (.lst (af++vr))
    have bQ:H p8=none:=up aV aW
    exists _,_,_,p8,_,af++vr,Y++R,rfl,Qc,bQ,(Qm aH aV).symm,?_,s9 _ _ aH,fun h=>?_,fun r B=>?_,⟨fun r B=>?_,fun r B=>(kW.mp B).elim (fun h=>aG r h) (fun h=>blk_gn tT aD bM hR r h),az.app (blk_ah (fun q hq=>zY _ (zY _ (zY _ (yV _ hq)))) (zY _ (yV _ jY)) hR)⟩,jZb.mpr ⟨aA,hR.nd,fun r B q hq=>Qoq (hY r B) br hR hq⟩,by rw[jZ];lia,aW.trans s9
    .have h5:=((O.same ai).same s9).app (aC.same s9)
     rw[xY,List.cons_append]at h5
     exact h5
    .rcases kW.mp h with h | h
     .exact ah h
     .obtain⟨r,B,hh⟩:=aC.mem h
      rw[aH]at hh
      exact Qls (Qsw hR r B) (HO.lst.inj (Y5 hh)).symm
    .rcases kW.mp B with h | h
     .exact(hY r h).mono Om
     .exact bo r h
    .rcases kW.mp B with h | h
     .exact au r h
     .exact bk r h
   .exact⟨_,_,_,g6,aF,af,Y,rfl,bw,al,ak,O.same ai,aH,ah,fun r B=>(hY r B).mono Om,⟨au,aG,az⟩,aA,Om,aW⟩
  .rintro σ H6 ⟨a2,ag,am,g6,aF,af,Y,rfl,aq,al,ak,O,an,ah,hY,⟨au,aG,az⟩,aA,bR,S⟩
   have aB:=O.length
   rw[jZ,yQ]at aB
   have aT:∀r∈Y,r.kind≠4/\r.kind≠10/\r.kind≠9:=fun r B=>by
    obtain⟨v,_,⟨l',c',rfl⟩ | ⟨k',t',m',rfl⟩⟩:=hY r B
    .exact⟨by show(5:Nat)≠4;decide,by show(5:Nat)≠10;decide,by show(5:Nat)≠9;decide⟩
    .have:=k'.isLt
     exists by show 6+k'.val≠4;lia,by show 6+k'.val≠10;lia,by show 6+k'.val≠9;lia
   have bE:BlkOk n T u w W (BR.work w::Y):=by
    exists fun r B=>?_,jYb.mpr ⟨fun r B=>Zp (fun e=>(aT r B).1 e.symm),aA⟩,fun r B=>?_,fun r B=>?_,fun k hk=>?_,az
    .rcases kK.mp B with e | e
     .rw[e];exact True.intro
     .exact au r e
    .rcases kK.mp B with e | e
     .rw[e];exists jY,fun x hx=>by rw[jV.mp hx];exact yV _ jY
     .rw[(hY r e).own];exists jY,fun x hx=>by rw[jV.mp hx];exact yV _ jY
    .rcases kK.mp B with e | e
     .rw[e];exact gn1 aD
     .exact aG r e
    .rw[jV.mp hk];exists .days n,zY _ (zY _ jY),rfl
   have be:∀r∈BR.work w::Y,r.kind≠9:=fun r B=>by
    rcases kK.mp B with e | e
    .rw[e];show(4:Nat)≠9;decide
    .exact(aT r e).2.2
   have bA:∀r∈BR.work w::Y,r.kind≠10:=fun r B=>by
    rcases kK.mp B with e | e
    .rw[e];show(4:Nat)≠10;decide
    .exact(aT r e).2.1
   dsimp only
   refine Qhz (fun ar H'=>∃(v9 G I:Option V) (g:Addr) (my:Int) (D:List V) (Y:List BR),ar=[some (.ref a),some (.int n),some (.ref d),some (.ref g),some (.ref N),some (.int my),some (.int (0+(i:Int))),some (.str w),some (.int C),v9,G,I]/\H' g=some (.lst D)/\H g=none/\g≠N/\RowsB H' D (W++Y)/\H' N=some (.lst ((u++[w]).map V.str))/\V.ref N∉D/\BlkOk n T u w W Y/\BR.work w∈Y/\(∀r∈Y,r.kind≠9)/\Y.length<=71/\Same H H') ?_ fun REST=>?_
   .rintro ar H7 ⟨v9,G,I,g7,a7,av,Y7,rfl,X,bl,bq,ad,ae,aY,aX,ab,b3,ay,s7⟩
    have bY:=ad.length
    rw[jZ]at bY
    have fin:∀(v9 G I:Option V) (H8:Hp) (aj:List V) (Y8:List BR),H8 g7=some (.lst aj)->RowsB H8 aj (W++Y8)->H8 N=some (.lst ((u++[w]).map V.str))->V.ref N∉aj->BlkOk n T u w W Y8->BR.work w∈Y8->Y8.length<=72->Same H H8->∃(v6 v7 v8 a2 ag am:Option V) (g:Addr) (my:Int) (D:List V) (W:List BR) (u:List Str),[some (V.ref a),some (V.int n),some (V.ref d),some (V.ref g7),some (V.ref N),some (V.int a7),some (V.int (0+(i:Int))),some (V.str w),some (V.int C),v9,G,I]=[some (.ref a),some (.int n),some (.ref d),some (.ref g),some (.ref N),some (.int my),v6,v7,v8,a2,ag,am]/\H8 g=some (.lst D)/\H g=none/\g≠N/\RowsB H8 D W/\H8 N=some (.lst (u.map V.str))/\V.ref N∉D/\WkOk n T u W/\u.length=i+1/\(∀j x,u[j]?=some x->fl x=97+j)/\W.length<=73*(i+1)/\Same H H8:=by
     intro v9 G I H8 aj Y8 f1 f2 f3 f4 f5 f6 f7 f8
     exists _,_,_,_,_,_,g7,a7,aj,W++Y8,u++[w],rfl,f1,bl,bq,f2,f3,f4,hW.join wn f5 f6,by rw[jZ];show u.length+1=_;lia,fun j x e=>?_,by rw[jZ];lia,f8
     by_cases hj:j<u.length
     .rw[jYd hj]at e
      exact aI j x e
     .have bv:=(jK.mp e).1
      rw[jZ]at bv
      have b8:j<u.length+1:=bv
      have ej:j=u.length:=Om
      subst ej
      rw[jJe (jJ _),Nat.sub_self]at e
      cases e
      rw[bx,bz]
    exists _,rfl,_,_,rfl,rfl,_,rfl,ite2 (fun yk=>?_) (fun _=>?_)
    .have cb:0<i:=by
      have:=kZ yk
      lia
     exists _,rfl,_,_,rfl,rfl,⟨Dc,Dc⟩,_,_,rfl,rfl,Z0,_,_,rfl,rfl,_,rfl,ite2 (fun _=>?_) (fun _=>?_)
     .have pi:(0:Int)<0+(i:Int):=Om
      have x0:=jQc (C / 48) (yXa pi)
      have x1:=wQ (C / 48) pi
      obtain⟨kx,b1⟩:∃kx:Nat,C / 48 % (0+(i:Int))=((kx:Nat):Int):=⟨(C / 48 % (0+(i:Int))).toNat,Om⟩
      have bH:kx<u.length:=Om
      obtain⟨x,ex⟩:∃x,u[kx]?=some x:=⟨_,gE bH⟩
      have hx:=aI kx x ex
      have xw:x≠w:=fun e=>by rw[e,bx]at hx;lia
      have xm:x∈u:=kY ex
      have ax:atI ((u++[w]).map V.str) (C / 48 % (0+(i:Int)))=some (.str x):=by
       rw[b1]
       exact Jy (by rw[yZ,jYd bH,ex];rfl)
      exists _,rfl,_,rfl,_,_,rfl,rfl,⟨Dc,Dc⟩,_,rfl,_,_,rfl,rfl,pi,N,_,_,_,rfl,rfl,Qb ae,ax,_,rfl,Z1 2,fun pr aa=>?_
      have s8:=Qd aa (.lst [.str x,.str w])
      have ac:upd H7 pr (.lst [.str x,.str w]) pr=some (.lst [.str x,.str w]):=Qc
      have bO:pr≠g7:=fun e=>by rw[e,X]at aa;cases aa
      have bN:pr≠N:=fun e=>by rw[e,ae]at aa;cases aa
      have bL:H pr=none:=up aa s7
      have bT:V.ref pr∉av:=fun h=>by
       obtain⟨r,_,hh⟩:=ad.mem h
       rw[aa]at hh
       cases hh
      generalize upd H7 pr (.lst [.str x,.str w])=H8 at s8 ac⊢
      have mn:∃mn:Int,(if (3:Int)<n+1 then 3 else n+1)=mn:=⟨_,rfl⟩
      obtain⟨mn,bi⟩:=mn
      have b9:1<=mn/\mn<=n+1:=by rw[<-bi];split<;>lia
      have q0:=jQc (C / 500) (show mn≠0 by lia)
      have q1:=wQ (C / 500) (show 0<mn by lia)
      refine Qjx (fun ar H'=>∃(x1 x2:Str),ar=[some (.ref a),some (.int n),some (.ref d),some (.ref g7),some (.ref N),some (.int a7),some (.int (0+(i:Int))),some (.str w),some (.int C),v9,G,some (.ref pr)]/\H' pr=some (.lst [.str x1,.str x2])/\H' g7=some (.lst av)/\RowsB H' av (W++Y7)/\H' N=some (.lst ((u++[w]).map V.str))/\Same H H'/\x1≠x2/\(w=x1\/w=x2)/\x1∈u++[w]/\x2∈u++[w]) ?_ fun ao=>?_
      .rintro ar H9 ⟨x1,x2,rfl,aN,bf,bm,bI,s9,bK,bV,m1,m2⟩
       have aL:∀y,y∈u++[w]->NmOk y:=fun y hy=>by
        rcases kW.mp hy with h | h
        .exact hW.gn _ (hW.wk y h) y jY
        .rw[jV.mp h];exact aD
       have aR:∀y,y∈u++[w]->Said ([.days n]++T++W++Y7) [inr ("work":Str),inr y]:=fun y hy=>by
        rcases kW.mp hy with h | h
        .exact⟨.work y,zY _ (yV _ (hW.wk y h)),rfl⟩
        .rw[jV.mp h];exists .work w,yV _ ab,rfl
       exists _,rfl,.inl ⟨rfl,_,Qb bf⟩,_,rfl,pr,_,_,_,rfl,rfl,Qb aN,at0,_,rfl,pr,_,_,_,rfl,rfl,Qb aN,at1,_,rfl,_,_,rfl,rfl,⟨Dc,Dc⟩,_,rfl,_,_,rfl,rfl,_,_,rfl,?_
       rw[bi]
       exists _,_,rfl,rfl,(by show 0<mn;lia),Z1 4,fun l9 aZ=>?_
       have bW:l9≠N:=fun e=>by rw[e,bI]at aZ;cases aZ
       have ap:=Qd aZ (.lst [.str "after",.str x1,.str x2,.int (C / 500 % mn)])
       have aM:upd H9 l9 (.lst [.str "after",.str x1,.str x2,.int (C / 500 % mn)]) l9=some (.lst ((BR.after x1 x2 (C / 500 % mn)).cells.map kV)):=Qc
       generalize upd H9 l9 (.lst [.str "after",.str x1,.str x2,.int (C / 500 % mn)])=H10 at ap aM⊢
       have aK:=ap _ _ bf
       exists g7,_,_,rfl,rfl,aK,Om,?_
       have aP:=((bm.same ap).snoc aM).updL (zs:=av++[.ref l9]) aK bm.noRow
       rw[xY]at aP
       refine fin _ _ _ _ _ (Y7++[BR.after x1 x2 (C / 500 % mn)]) Qc aP (by rw[Qj bq.symm];exact ap _ _ bI) (fun h=>?_) (aX.snoc ⟨bK,q0,Om⟩ ?_ (fun y hy=>?_) (fun r B=>Zp (b3 r B)) (fun y hy=>?_) (fun y hy=>?_)) (zY _ ab) (by rw[jZ];show Y7.length+1<=72;lia) (fun c o e=>by rw[Qj (Qm e bl)];exact(s9.trans ap) _ _ e)
       .rcases kW.mp h with h | h
        .exact aY h
        .have h2:=jV.mp h
         injection h2 with h3
         exact bW h3.symm
       .rcases bV with e | e
        .rw[e];exact jY
        .rw[e];exact kJ _ jY
       .rcases kK.mp hy with e | e
        .rw[e];exact m1
        .rw[jV.mp e];exact m2
       .rcases kK.mp hy with e | e
        .rw[e];exact aL x1 m1
        .rw[jV.mp e];exact aL x2 m2
       .rcases kK.mp hy with e | e
        .rw[e];exact aR x1 m1
        .rw[jV.mp e];exact aR x2 m2
      .have xi:x∈u++[w]:=zY _ xm
       have wi:w∈u++[w]:=yV _ jY
       exists _,rfl,_,_,rfl,rfl,⟨Dc,Dc⟩,_,_,rfl,rfl,Z0,rfl,_,rfl,ite2 (fun _=>?_) (fun _=>?_)
       .refine⟨_,rfl,.inl ⟨rfl,_,Qb ac⟩,pr,_,rfl,rfl,ac,ao _ _ ⟨w,x,rfl,Qc,?_,?_,?_,fun c o e=>?_,xw.symm,.inl rfl,wi,xi⟩⟩
        .rw[Qj bO.symm];exact s8 _ _ X
        .exact(ad.same s8).imp fun l r hm z=>by rw[Qj (fun e=>bT (by rw[<-e];exact hm))];exact z
        .rw[Qj bN.symm];exact s8 _ _ ae
        .rw[Qj (Qm e bL)];exact(s7.trans s8) _ _ e
       .exact ao _ _ ⟨x,w,rfl,ac,s8 _ _ X,ad.same s8,s8 _ _ ae,s7.trans s8,xw,.inr rfl,xi,wi⟩
     .exact fin _ _ _ _ _ _ X ad ae aY aX ab Om s7
    .exact fin _ _ _ _ _ _ X ad ae aY aX ab Om s7
   .have e0:=jQc (C / 24) (show(n+1)≠0 by lia)
    have e1:=wQ (C / 24) (show 0<n+1 by lia)
    have c0:=jQc (C / 400) (show(999:Int)≠0 by decide)
    have c1:=wQ (C / 400) (show(0:Int)<999 by decide)
    exists _,rfl,_,_,rfl,rfl,⟨Dc,Dc⟩,_,_,rfl,rfl,Z0,rfl,_,rfl,ite2 (fun _=>?_) (fun _=>?_)
    .refine⟨_,rfl,.inl ⟨rfl,_,Qb aq⟩,_,rfl,_,rfl,_,_,rfl,rfl,⟨Dc,Dc⟩,_,rfl,_,_,rfl,rfl,_,_,rfl,rfl,(by show 0<n+1;lia),_,rfl,_,_,rfl,rfl,⟨Dc,Dc⟩,_,_,rfl,rfl,Z0,_,_,rfl,rfl,Z1 4,fun l7 ay=>?_⟩
     have bX:l7≠N:=fun e=>by rw[e,an]at ay;cases ay
     have s7:=Qd ay (.lst [.str "late",.str w,.int (C / 24 % (n+1)),.int (1+C / 400 % 999)])
     have aQ:upd H6 l7 (.lst [.str "late",.str w,.int (C / 24 % (n+1)),.int (1+C / 400 % 999)]) l7=some (.lst ((BR.late w (C / 24 % (n+1)) (1+C / 400 % 999)).cells.map kV)):=Qc
     generalize upd H6 l7 (.lst [.str "late",.str w,.int (C / 24 % (n+1)),.int (1+C / 400 % 999)])=H7 at s7 aQ⊢
     have X:=s7 _ _ aq
     exists g6,_,_,rfl,rfl,X,Om,REST _ _ ⟨_,_,_,g6,aF,_,BR.work w::Y++[BR.late w (C / 24 % (n+1)) (1+C / 400 % 999)],rfl,Qc,al,ak,?_,?_,fun h=>?_,bE.snoc ⟨e0,Om,Om,Om⟩ jY (fun x hx=>?_) (fun r B=>Zp (bA r B)) (gn1 aD) (fun k hk=>by rw[jV.mp hk];exact⟨.work w,yV _ jY,rfl⟩),zY _ jY,fun r B=>?_,?_,fun c o e=>?_⟩
     .have h5:=((O.same s7).snoc aQ).updL (zs:=af++[.ref l7]) X O.noRow
      rw[xY]at h5
      exact h5
     .rw[Qj ak.symm];exact s7 _ _ an
     .rcases kW.mp h with h | h
      .exact ah h
      .have h2:=jV.mp h
       injection h2 with h3
       exact bX h3.symm
     .rw[jV.mp hx];exact yV _ jY
     .rcases kW.mp B with h | h
      .exact be r h
      .rw[jV.mp h];show(10:Nat)≠9;decide
     .rw[jZ,yQ];show Y.length+1+1<=71;lia
     .rw[Qj (Qm e al)];exact(S.trans s7) _ _ e
    .exact REST _ _ ⟨_,_,_,g6,aF,af,BR.work w::Y,rfl,aq,al,ak,O,an,ah,bE,jY,be,by rw[yQ];lia,S⟩
 .rintro σ H1 ⟨v6,v7,v8,v9,G,I,g,my,D,W,u,rfl,a8,gH,gN,aw,bc,a6,hW,bz,aI,bj,aJ⟩
  exists _,rfl,q g D u W H1 aJ gH a8 aw hW Om Om
abbrev Qsx:Stmt:=top 40
theorem Qbm{r:BR}(h:Thing r):r.own=[]:=by cases h<;>rfl
theorem Qlt{r:BR}(h:Thing r):r.kind≠0:=by
 cases h with
 |bench b r=>show(1:Nat)≠0;decide
 |shut b f t=>show(2:Nat)≠0;decide
 |store b m f=>show(3:Nat)≠0;decide
theorem Qxa{T W:List BR}(d:ThOk n T)(c:WkOk n T nm W)(j:T.length<=11)(k:W.length<=370)(h:nm.length<=5):WB n (.days n::(T++W)):=by
 exists fun r b=>?_,jYb.mpr ⟨fun r b=>?_,jZb.mpr ⟨d.nd,c.nd,fun r b q i=>?_⟩⟩,fun r b w a=>?_,?_,nm,h,fun r b w a=>?_
 .rcases kK.mp b with e | e
  .rw[e];rfl
  .rcases kW.mp e with e | e
   .exact d.ok r e
   .exact c.ok r e
 .rcases kW.mp b with e | e
  .exact Zp (fun z=>Qlt (d.th r e) z.symm)
  .refine .inr (.inr fun z=>?_)
   cases f:r.own with
   |nil=>exact(c.own r e).1 f
   |cons w ws=>
    have g:w∈(BR.days n).own:=Qhy z (by rw[f];exact jY)
    exact nomatch g
 .refine .inr (.inr fun z=>?_)
  cases f:q.own with
  |nil=>exact(c.own q i).1 f
  |cons w ws=>
   have g:w∈r.own:=Qhy z (by rw[f];exact jY)
   rw[Qbm (d.th r b)]at g
   exact nomatch g
 .rcases kK.mp b with e | e
  .rw[e]at a;exact nomatch a
  .rcases kW.mp e with e | e
   .rw[Qbm (d.th r e)]at a;exact nomatch a
   .exact kJ _ (yV _ (c.wk w ((c.own r e).2 w a)))
 .rw[yQ,jZ];lia
 .rcases kK.mp b with e | e
  .rw[e]at a;exact nomatch a
  .rcases kW.mp e with e | e
   .rw[Qbm (d.th r e)]at a;exact nomatch a
   .exact(c.own r e).2 w a
theorem ah_at:∀{X S:List BR} {i:Nat} {r:BR},Ahead S X->X[i]?=some r->∀k∈r.needs,Said (S++X.take i) k
 |x::X,S,0,r,h,e=>by
  cases e
  rw[kKb,xV]
  exact h.1
 |x::X,S,i+1,r,h,e=>by
  have a:=ah_at h.2 (show X[i]?=some r from e)
  rw[xY]at a
  exact a
 |[],_,_,_,_,e=>nomatch e
structure BookOk(n:Int)(B:List BR):Prop where
 n1:1<=n
 n12:n<=12
 wb:WB n B
 hd:B[0]?=some (.days n)
 gn:∀r∈B,r.gn
theorem Qxb{α:Type}(B:List α)(k:Nat)(r:α):(B.take k++[r]++B.drop k).Perm (r::B):=by
 have h:=List.perm_middle (a:=r) (l₁:=B.take k) (l₂:=B.drop k)
 rw[kZc]at h
 rwa [xY]
inductive Qvb(K:Fg)(vs:List V)(H:Hp)(Q:VK)(E:XK):Prop|mk(a:Addr)(ns:List Int)(_:vs=[.ref a])(_:SqL K H a (ns.map V.int))(_:∀(g:Addr) (vs:List V) (n:Int) (B:List BR) (H':Hp),Same H H'->H' g=some (.lst vs)->RowsB H' vs B->BookOk n B->Q (.ref g) H'):Qvb K vs H Q E
theorem scBook:FnScope ["_law_script","_law_days","_law_things_here","_law_rows","_law_mixed_here","_law_k","_law_row"] ["_law_script"] (Qh Qsx):=Sc
theorem okBook(F:Fn K mg "_law_book" Qsx)(M:Mg mg)(b:Cal P w K mg base 2 "_law_mixed" ["_law_script","_law_k"] (Kb K))(d:Cal P w K mg base 4 "_law_things" ["_law_script","_law_days"] (Qjt K))(o:Cal P w K mg base 4 "_law_works" ["_law_script","_law_days","_law_things_here"] (Qos K))(L:Cal P w K mg base 1 "_law_put" ["_law_rows","_law_row","_law_number"] (spPut K)):Cal P w K mg base 5 "_law_book" ["_law_script"] (Qvb K):=by
 refine Xv F scBook (a:=fun f az A ar s H vs Q E S h=>?_)
 obtain⟨a,ns,rfl,hS,q⟩:=h
 refine⟨_,(Qg (Z4 1 scBook.nd (Qk Qy Qe (Qk Xf (Xk b (S.mono Dc) (Qa (pv 0) (Qa Qe Qf))) Qe)))
  (Qg (Z4 2 scBook.nd (Xk d (S.mono Dc) (Qa (pv 0) (Qa (pv 1) Qf))))
  (Qg (Z4 3 scBook.nd (Xg (Qa (Xg (Qa Qq (Qa (pv 1) Qf))) Qf)))
  (Qg (Z4 4 scBook.nd (Jg Ye (Qk Xf (Xk b (S.mono Dc) (Qa (pv 0) (Qa Qe Qf))) Qe) Qe (Qp _)))
  (Qg (Yb Y33 rfl (Qob true rfl M.enumerate_ (Qa (Qk Kr (pv 2) (Xk o (S.mono Dc) (Qa (pv 0) (Qa (pv 1) (Qa (pv 2) Qf))))) Qf)) (Wc (K:=K) (i:=5) (j:=6) rfl rfl scBook.nd rfl rfl rfl rfl) (Qi (Xp (Jz (pv 4)) (Qi (Z4 3 scBook.nd (Xk L (S.mono Dc) (Qa (pv 3) (Qa (pv 6) (Qa (Xk b (S.mono Dc) (Qa (pv 0) (Qa (Qk Qy Qe (pv 5)) Qf))) Qf)))))) (Qi (Z4 3 scBook.nd (Qk Kr (pv 3) (Xg (Qa (pv 6) Qf))))))))
  (Qi (Qx (pv 3)))))))),?_⟩
 refine Qjp ?_;intros
 exists"z"
 exists _,rfl,a,ns,0,rfl,hS,Dc,Dc,fun z z0 z1=>?_
 exists _,_,rfl,rfl,Z0,_,_,rfl,rfl,?_
 dsimp only
 generalize hn:1+z % 12=n
 have n1:1<=n/\n<=12:=Om
 exists _,rfl,_,rfl,a,ns,n,rfl,hS,n1.1,n1.2,fun gt R T H1 s1 aG an Y tT tl=>?_
 exists _,rfl,Z1 2,fun l hl=>?_
 have s2:=s1.trans (Qd hl (.lst [.str "days",.int n]))
 have ai:=Qd hl (.lst [.str "days",.int n])
 have ap:upd H1 l (.lst [.str "days",.int n]) l=some (.lst ((BR.days n).cells.map kV)):=Qc
 generalize upd H1 l (.lst [.str "days",.int n])=H2 at s2 ai ap⊢
 exists Z1 1,fun g0 ax=>?_
 have D:=Qd ax (.lst [.ref l])
 have s3:=s2.trans D
 have C:=ai.trans D
 have af:upd H2 g0 (.lst [.ref l]) g0=some (.lst [.ref l]):=Qc
 have am:RowsB (upd H2 g0 (.lst [.ref l])) [.ref l] [.days n]:=RowsB.snoc (vs:=[]) (B:=[]) .nil (D _ _ ap)
 generalize upd H2 g0 (.lst [.ref l])=H3 at D s3 C af am⊢
 exists _,rfl,a,ns,3,rfl,s3.seq hS,Dc,Dc,fun y y0 y1=>?_
 exists _,_,rfl,rfl,Z0,rfl,?_
 generalize decide (V.int (y % 2)=V.int 1)=bb
 exists _,rfl,_,rfl,_,rfl,_,rfl,a,gt,ns,n,R,T,rfl,s3.seq hS,n1.1,n1.2,Qb (C _ _ an),Y.same C,tT,tl,fun gw Z nm W H4 s4 aD av ag hW wl nl=>?_
 have aI:=Y.length
 have aK:=ag.length
 exists gt,gw,_,_,rfl,rfl,s4 _ _ (C _ _ an),av,Om,fun p hp=>?_
 have u:=Qd hp (.lst (R++Z))
 have ab:upd H4 p (.lst (R++Z)) p=some (.lst (R++Z)):=Qc
 have ad:RowsB (upd H4 p (.lst (R++Z))) (R++Z) (T++W):=((Y.same (C.trans s4)).same u).app (ag.same u)
 have s5:=(s3.trans s4).trans u
 have aq:=(s4.trans u) _ _ af
 have ae:=am.same (s4.trans u)
 generalize upd H4 p (.lst (R++Z))=H5 at u ab ad s5 aq ae⊢
 have lx:=ad.length
 let ak:Nat->St->Hp->Prop:=fun i σ O=>∃(v5 v6:Option V) (g:Addr) (vs:List V) (B:List BR),σ=[some (.ref a),some (.int n),some (.ref gt),some (.ref g),some (.bl bb),v5,v6]/\O g=some (.lst vs)/\RowsB O vs B/\B.Perm (BR.days n::(T++W).take i)/\(B[0]?=some (.days n)/\Ahead [] B)/\Same H5 O
 exists p,rfl,⟨_,Qb ab⟩,Qjl (K:=K) (m:=true) (a:=p) (xs:=R++Z) ak ⟨none,none,g0,_,[.days n],rfl,aq,ae,.refl _,⟨rfl,fun _ h=>(nomatch h),True.intro⟩,Same.refl _⟩ (fun i σ O _ h=>?_) ?_ ?_
 .obtain⟨v5,v6,g,vs,B,rfl,N,v,c,t,s6⟩:=h
  exact s6.seq (Qb ab)
 .rintro i x σ O T' e1 ⟨v5,v6,g,vs,B,rfl,N,v,c,⟨t,X⟩,s6⟩ aw
  obtain⟨r,lr,er,rfl,au⟩:=ad.get e1
  have hi:=(jK.mp er).1
  rw[jZ]at hi
  have lB:B.length=i+1:=by
   rw[c.length_eq,yQ,zZ,jZ]
   lia
  have aJ:=v.length
  have J:=Qd aw (.tup [.int ((i:Nat):Int),.ref lr])
  exists T',_,rfl,Xb Qc,rfl,_,_,rfl,_,_,rfl,rfl,?_
  generalize upd O T' (.tup [.int ((i:Nat):Int),.ref lr])=H7 at J⊢
  have G:=s6.trans J
  have U:=G _ _ au
  have aj:=J _ _ N
  have I:=v.same J
  have al:∀k∈r.needs,Said B k:=fun k hk=>(ah_at (tT.ah.app hW.ah) er k hk).mono fun q hq=>c.mem_iff.mpr hq
  have tk:(T++W).take (i+1)=(T++W).take i++[r]:=Jn er
  have fin:∀{B':List BR},B'.Perm (r::B)->B'.Perm (BR.days n::(T++W).take (i+1)):=fun h=>by
   rw[tk]
   refine h.trans ((List.Perm.cons r c).trans ?_)
   refine(List.Perm.swap _ _ _).trans (.cons _ ?_)
   have h5:=List.perm_append_comm (l₁:=[r]) (l₂:=(T++W).take i)
   exact h5
  exists _,rfl,_,rfl,ite2 (fun _=>?_) (fun _=>?_)
  .refine⟨_,rfl,_,rfl,_,rfl,_,rfl,_,_,rfl,rfl,a,ns,_,rfl,(s5.trans G).seq hS,Om,Om,fun y' aB aE=>?_⟩
   exists g,lr,_,vs,B,r,rfl,aj,I,Om,Om,U,fun g8 k H8 k1 k2 hh s8 aA aa=>?_
   exists _,_,g8,_,B.take k++[r]++B.drop k,rfl,aa,(((I.same s8).take k).snoc (s8 _ _ U)).app ((I.same s8).drop k),fin (Qxb B k r),⟨?_,Ahead.ins (by rw[kZc];exact X) fun κ ao=>Qsv t k1 hh ao (al κ ao)⟩,G.trans s8
   rw[xY,jYd (by rw[zZ];lia),List.getElem?_take]
   rw[Y22 Om]
   exact t
  .refine⟨_,rfl,_,rfl,Z1 1,fun p9 ay=>?_⟩
   have s9:=Qd ay (.lst [.ref lr])
   exists g,p9,_,_,rfl,rfl,s9 _ _ aj,Qc,by show vs.length+1<=_;lia,fun g8 aa=>?_
   have ac:=s9.trans (Qd aa (.lst (vs++[.ref lr])))
   exists _,_,g8,_,B++[r],rfl,Qc,(I.same ac).snoc (ac _ _ U),fin (List.perm_append_comm (l₁:=B) (l₂:=[r])),⟨?_,X.app (Ahead.one (by rw[yXf];exact al))⟩,G.trans ac
   rw[jYd Om]
   exact t
 .rintro σ O ⟨v5,v6,g,vs,B,rfl,N,v,c,⟨t,X⟩,s6⟩
  rw[lx,yW]at c
  exists _,rfl,q g vs n B O (s5.trans s6) N v ⟨n1.1,n1.2,(Qxa tT hW tl wl nl).perm c.symm,t,fun r S=>?_⟩
  rcases kK.mp (c.mem_iff.mp S)with e | e
  .rw[e];exact fun _ h=>nomatch h
  .rcases kW.mp e with e | e
   .exact tT.gn r e
   .exact hW.gn r e
abbrev Qsy:Stmt:=top 41
abbrev Qbn:Stmt:=top 43
theorem Jq(a:X.K=K):SlR X (rSlL K):=by subst a;exact Jh
def Zk(w:Str):BR->Bool
 |.way w' _ _ _=>decide (w'=w)
 |_=>false
theorem Qsz{w:Str}{r:BR}(h:r.word≠"way"):Zk w r=false:=by
 cases r with
 |way w' v l c=>exact Y21 rfl h
 |_=>rfl
theorem filter_next{α:Type}{B:List α}{r:α}(p:α->Bool)(h:B[i]?=some r):(B.take (i+1)).filter p=(B.take i).filter p++(if p r=true then[r]else[]):=by
 rw[Jn h,jKa]
 by_cases c:p r=true
 .rw[Y22 c,jQe c,List.filter_nil]
 .rw[Y20 c,wK c,List.filter_nil]
inductive Qjy(k0:Fg)(vs:List V)(H:Hp)(Q:VK)(E:XK):Prop|mk(d:Addr)(w:Str)(us:List V)(B:List BR)(_:vs=[.ref d,.str w])(_:H d=some (.lst us))(_:RowsB H us B)(_:B.length<=1000)(_:∀(D:Addr) (ys:List V) (H':Hp),Same H H'->H D=none->H' D=some (.lst ys)->RowsB H' ys (B.filter (Zk w))->Q (.ref D) H'):Qjy k0 vs H Q E
def lenOf(w v:Str):BR->Option Int
 |.way w' v' l _=>if w'=w/\v'=v then some l else none
 |_=>none
def cut3(ks:List Key):cutV (ks.map kV) none (some 3)=(ks.take 3).map kV:=by
 unfold cutV
 rw[HT.sIx_none,jJb,kYe,jX,show(3:Int)=((3:Nat):Int)from rfl,HT.sIx_nat,<-kXe]
 by_cases h:3<=ks.length
 .rw[jQb h]
 .rw[kZd Om,yW,zW Om]
theorem way3{r:BR}{w:Str}:r.cells.take 3=[inr ("way":Str),inr w,inr v]↔∃l c,r=.way w v l c:=by
 constructor
 .intro h
  have e:r.word="way":=by
   have b:(r.cells.take 3).head?=some (inr ("way":Str)):=by rw[h];rfl
   have a:(r.cells.take 3).head?=some (inr r.word):=by cases r<;>rfl
   rw[a]at b
   exact Y37 (Y5 b)
  obtain⟨j,d,l,c,rfl⟩:=Qeb e
  have i:[(inr ("way":Str):Key),inr j,inr d]=[inr ("way":Str),inr w,inr v]:=h
  injection i with _ a
  injection a with g f
  injection f with k
  cases g
  cases k
  exists l,c,rfl
 .rintro⟨l,c,rfl⟩
  rfl
theorem lenOf_some{w:Str}{r:BR}{x:Int}:lenOf w v r=some x↔∃c,r=.way w v x c:=by
 constructor
 .intro h
  cases r with
  |way w' v' l c=>
   have a:(if w'=w/\v'=v then some l else none)=some x:=h
   by_cases e:w'=w/\v'=v
   .rw[Y22 e]at a
    cases a
    rw[e.1,e.2]
    exists c,rfl
   .rw[Y20 e]at a;cases a
  |_=>cases h
 .rintro⟨c,rfl⟩
  exact Y22 ⟨rfl,rfl⟩
theorem Jo{α β:Type}{B:List α}{r:α}(p:α->Option β)(h:B[i]?=some r):(B.take (i+1)).filterMap p=(B.take i).filterMap p++(p r).toList:=by
 rw[Jn h,List.filterMap_append]
 congr 1
theorem Vx{g:Addr}{o:HO}(s:Same H0 H)(h:H0 g=none):Same H0 (upd H g o):=fun b u e=>by
 rw[Qj (Qm e h)];exact s _ _ e
theorem Qab{α:Type}{f:BR->Option α}(R:Hp->V->α->Prop)(w:∀{H H' v x},Same H H'->R H v x->R H' v x)(u:∀{H g ys zs v x},H g=some (.lst ys)->R H v x->R (upd H g (.lst zs)) v x)
    {D:Addr} {us:List V} {B:List BR}    {Q:Addr->Hp->Prop} (m:τ0=none::cs) (p:H d=some (.lst us)) (t:RowsB H us B) (G:B.length<=1000) (q:H D=none)
  (C:∀(r:BR) (lr:Addr) (H1:Hp),r∈B->Same H H1->H1 lr=some (.lst (r.cells.map kV))->∀(P1:V->Hp->Prop) (P2:Hp->Prop),(∀v H2 x,f r=some x->Same H1 H2->R H2 v x->P1 v H2)->(f r=none->∀H2,Same H1 H2->P2 H2) ->
   tt (some (.ref lr)::cs) H1 fun ok H3=>if ok=true then te (some (.ref lr)::cs) H3 P1 else P2 H3)
  (A:∀ys H1,Same H H1->H1 D=some (.lst ys)->Paired (R H1) ys (B.filterMap f)->Q D H1) :
  LcW (Itl K d) D τ0 H (Vl 0) tt te Q:=by
 subst m
 have J:=t.length
 exists"z"
 let k:Nat->St->List V->Hp->Prop:=fun i j ys H1=>∃v:Option V,j=v::cs/\Paired (R H1) ys ((B.take i).filterMap f)/\ys.length<=i/\H1 D=some (.lst ys)/\Same H H1
 refine Zi (n:=B.length) k ?_ (fun i j ys H1 s h=>?_) (fun i j ys H1 s h=>?_) (fun j ys H1 h=>?_) ?_ ?_
 .exact⟨none,rfl,.nil,jJ _,Qc,Qd q _⟩
 .obtain⟨v,rfl,hR,l,b,a⟩:=h
  exists b,Om
 .obtain⟨v,rfl,hR,l,b,a⟩:=h
  exists us,_,Qb (a _ _ p),gE Om
 .obtain⟨v,rfl,hR,l,b,a⟩:=h
  exists us,Qb (a _ _ p),Om
 .rintro i j ys H1 x H2 s ⟨v,rfl,hR,l,b,a⟩ ⟨rfl,E⟩
  obtain⟨r,lr,o,rfl,F⟩:=(t.same a).get (E _ (Qb (a _ _ p)))
  refine C r lr _ (kY o) a F _ _ (fun v H3 x e c y=>⟨c _ _ b,_,rfl,?_,by rw[jZ];exact wW l,Qc,Vx (a.trans c) q⟩) (fun e H3 c=>⟨_,rfl,?_,Om,c _ _ b,a.trans c⟩)
  .rw[Jo f o,e]
   exact Paired.snoc (Paired.mapP hR fun _ _ z=>u (c _ _ b) (w c z)) (u (c _ _ b) y)
  .rw[Jo f o,e,Option.toList_none,xV]
   exact Paired.mapP hR fun _ _ z=>w c z
 .rintro j ys H1 ⟨v,rfl,hR,l,b,a⟩
  rw[yW]at hR
  exact A ys H1 a b hR
theorem Zb:∀{ys:List V} {xs:List Str},Paired (fun v x=>v=V.str x) ys xs->ys=xs.map V.str
 |_,_,.nil=>rfl
 |_,_,.cons e t=>by rw[e,Zb t,zX]
theorem Vb:∀{ys:List V} {xs:List Int},Paired (fun v x=>v=V.int x) ys xs->ys=xs.map V.int
 |_,_,.nil=>rfl
 |_,_,.cons e t=>by rw[e,Vb t,zX]
theorem WB.uniq{B:List BR}(h:WB n B){r q:BR}(k:r∈B)(m:q∈B)(b:r.key=q.key)(d:r.word≠"shut"):r=q:=by
 obtain⟨i,f⟩:=jQa.mp k
 obtain⟨j,e⟩:=jQa.mp m
 have a:q.word≠"shut":=by
  have l:((inr r.word:Key)::r.names.map inr)=inr q.word::q.names.map inr:=b
  injection l with g
  rw[<-Y37 g];exact d
 rcases kYf i j with c | c | c
 .rcases Qfz h.nd c f e with z | z | z
  .exact Y21 z d
  .exact Y21 z a
  .exact Y21 b z
 .subst c
  exact Y5 (f.symm.trans e)
 .rcases Qfz h.nd c e f with z | z | z
  .exact Y21 z a
  .exact Y21 z d
  .exact Y21 b.symm z
theorem WB.way1{B:List BR}(h:WB n B){w:Str}{l' c':Int}(b:.way w v l c∈B)(a:.way w v l' c'∈B):l=l'/\c=c':=by
 have:=h.uniq b a rfl (Sn "way" "shut")
 cases this
 exists rfl,rfl
inductive Qee(k0:Fg)(vs:List V)(H:Hp)(Q:VK)(E:XK):Prop|mk(d:Addr)(w v:Str)(n:Int)(us:List V)(B:List BR)(l c:Int)(_:vs=[.ref d,.str w,.str v])(_:H d=some (.lst us))(_:RowsB H us B)(_:WB n B)(_:.way w v l c∈B)(_:∀(H':Hp),Same H H'->Q (.int l) H'):Qee k0 vs H Q E
theorem scWays:FnScope ["_law_book_here","_law_work"] ["_law_book_here","_law_work"] (Qh Qsy):=Sc
theorem okWays(F:Fn K mg "_law_ways" Qsy)(M:Mg mg):Cal P w K mg base 1 "_law_ways" ["_law_book_here","_law_work"] (Qjy K):=by
 refine Xv F scWays (a:=fun f Y A u s H vs Q E t h=>?_)
 obtain⟨d,w,S,B,rfl,G,R,bl,q⟩:=h
 exists _,(Qi (Qx (Yh ["_law_row","_law_work"] [none,some 1] rfl (Xd (pv 0)) (fun _ _ _=>(Z3 0 (show(["_law_row","_law_work"]:List Str).Nodup by decide +kernel))) (fun _ _ _=>(Zh (PW.pt (Zd (Ql Ye (Qs (Xw (K:=K) rfl) (pv 0) Qe) Qq (Qp _)) (Ys (Ql Ye (Qs (Xw (K:=K) rfl) (pv 0) Qe) (pv 1) (Qp _))))))) (fun _ _ _=>(pv 0))))),?_
 exists"z"
 have lu:=R.length
 exists _,rfl,d,rfl,⟨_,Qb G⟩,fun D z=>?_
 let n:Nat->St->List V->Hp->Prop:=fun m p a k=>∃v:Option V,p=[v,some (.str w)]/\RowsB k a ((B.take m).filter (Zk w))/\a.length<=m/\k D=some (.lst a)/\Same H k
 refine Z5 S (show _=B.length from Om) n ?_ (fun m p a k hm h=>?_) ?_ ?_
 .exact⟨none,rfl,.nil,jJ _,Qc,Qd z _⟩
 .obtain⟨v,rfl,i,L,j,g⟩:=h
  exists ⟨j,Om⟩,g.seq (Qb G)
 .rintro m p a k x N hm ⟨v,rfl,i,L,j,g⟩ ⟨rfl,e1⟩
  obtain⟨r,J,W,rfl,t⟩:=(R.same g).get (e1 _ (g.seq (Qb G)))
  have T:Zk w r=false->∃v:Option V,([some (.ref J),some (.str w)]:St)=[v,some (.str w)]/\RowsB N a ((B.take (m+1)).filter (Zk w))/\a.length<=m+1/\N D=some (.lst a)/\Same H N:=fun h=>by
   exists _,rfl,?_,Om,j,g
   rw[filter_next (Zk w) W,h,Y20 Dc,xV]
   exact i
  exists _,rfl,J,_,_,_,rfl,rfl,Qb t,Yl r,rfl,_,rfl,ite2 (fun y=>?_) (fun y=>iteF (T (Qsz fun e=>y (by rw[e];exact yesS _))))
  obtain⟨C,O,X,U,rfl⟩:=Qeb (eqS y)
  exists _,rfl,J,_,_,_,rfl,rfl,Qb t,(show atI ((BR.way C O X U).cells.map kV) 1=some (.str C)from rfl),_,rfl,rfl,_,rfl,ite2 (fun I=>?_) (fun I=>T ?_)
  .have Z:=eqS I
   exists _,rfl,j,_,rfl,?_,by rw[jZ];exact wW L,Qc,fun b o e=>?_
   .rw[filter_next (Zk w) W,show Zk w (.way C O X U)=true from yX Z,Y22 rfl]
    exact(i.snoc t).updL j i.noRow
   .rw[Qj (Qm e z)];exact g _ _ e
  .exact xK fun e=>I (by rw[e];exact yesS _)
 .rintro p a k ⟨v,rfl,i,L,j,g⟩
  rw[yW]at i
  exact q D a k g z j i
theorem Qta:FnScope ["_law_book_here","_law_work","_law_way_here"] ["_law_book_here","_law_work","_law_way_here"] (Qh Qbn):=Sc
theorem Qtb(F:Fn K mg "_law_length" Qbn)(M:Mg mg):Cal P w K mg base 1 "_law_length" ["_law_book_here","_law_work","_law_way_here"] (Qee K):=by
 refine Xv F Qta (fun _ _ _ _ _ _=>Wh (fun _ _ _=>rfl)) (fun vs H Q E h=>?_) (fun f Z A C s H vs Q E j h=>?_)
 .obtain⟨d,w,v,n,us,B,l,c,rfl,_⟩:=h
  rfl
 obtain⟨d,w,v,n,us,B,l,c,rfl,S,O,L,g,q⟩:=h
 have z:=Z6 6 j.un
 exists _,(Qi (Qx (Qs Qn (Yh ["_law_row","_law_work","_law_way_here"] [none,some 1,some 2] rfl (Xd (pv 0)) (fun _ _ _=>(Z3 0 (show(["_law_row","_law_work","_law_way_here"]:List Str).Nodup by decide +kernel))) (fun _ _ _=>(Zh (Ql (Qjm (K:=K) (n:=6) rfl z) (Xc (Jq (K:=K) rfl) (pv 0) Xn (Xe Qe)) (Xg (Qa Qq (Qa (pv 1) (Qa (pv 2) Qf)))) (Qp _)))) (fun _ _ _=>(Qs (Xw (K:=K) rfl) (pv 0) Qe))) Qe))),?_
 exists"z"
 have lu:=O.length
 have bl:=L.len
 exists _,rfl,d,rfl,⟨_,Qb S⟩,fun D Y=>Qab (f:=lenOf w v) (fun _ v x=>v=.int x) (fun _ e=>e) (fun _ e=>e) rfl S O Om Y (fun r U W hm X j P1 P2 k1 k2=>?_) (fun ys W X hE hi=>?_)
 .refine⟨_,rfl,_,rfl,U,_,rfl,Qb j,fun p hp=>?_⟩
  rw[cut3]
  have s2:=Qd hp (.lst ((r.cells.take 3).map kV))
  exists _,rfl,_,rfl,Z1 3,fun p2 I=>?_
  have V:=Qd I (.lst [.str "way",.str w,.str v])
  have i:=s2.trans V
  exists p,p2,r.cells.take 3,[inr ("way":Str),inr w,inr v],rfl,rfl,Qb (V _ _ Qc),Qb Qc,fun b N=>⟨_,rfl,ite2 (fun y=>?_) (fun y=>k2 ?_ _ i)⟩
  .obtain⟨J,o,rfl⟩:=way3.mp (N.mp y)
   exists _,rfl,U,_,_,_,rfl,rfl,Qb (i _ _ j),(show atI ((BR.way w v J o).cells.map kV) 3=some (.int J)from rfl),k1 _ _ J (lenOf_some.mpr ⟨o,rfl⟩) i rfl
  .cases e:lenOf w v r with
   |none=>rfl
   |some x=>
    obtain⟨o,e2⟩:=lenOf_some.mp e
    exact Y21 (N.mpr (way3.mpr ⟨x,o,e2⟩)) y
 .have R:=Vb hi
  have G:∀x∈B.filterMap (lenOf w v),x=l:=fun x G=>by
   obtain⟨r,j,e⟩:=xX.mp G
   obtain⟨o,rfl⟩:=lenOf_some.mp e
   exact(L.way1 j g).1
  have m:l∈B.filterMap (lenOf w v):=xX.mpr ⟨_,g,lenOf_some.mpr ⟨c,rfl⟩⟩
  obtain⟨u,t,T⟩:∃u t,B.filterMap (lenOf w v)=u::t:=by
   cases e:B.filterMap (lenOf w v)with
   |nil=>rw[e]at m;exact nomatch m
   |cons a b=>exists a,b,rfl
  have ex:u=l:=G u (by rw[T];exact jY)
  rw[T,ex]at R
  exists D,_,_,_,rfl,rfl,Qb hE,?_,q W X
  rw[R]
  exact Jy (k:=0) rfl
abbrev Qot:Stmt:=top 44
def Zz(k:Fin 3)(w v t:Str):BR->Option Int
 |.use k' w' v' t' m=>if k'=k/\w'=w/\v'=v/\t'=t then some m else none
 |_=>none
def Yv(B:List BR)(k:Fin 3)(w v t:Str):Int:=(B.filterMap (Zz k w v t)).sum
def cut4(ks:List Key):cutV (ks.map kV) none (some 4)=(ks.take 4).map kV:=by
 unfold cutV
 rw[HT.sIx_none,jJb,kYe,jX,show(4:Int)=((4:Nat):Int)from rfl,HT.sIx_nat,<-kXe]
 by_cases h:4<=ks.length
 .rw[jQb h]
 .rw[kZd Om,yW,zW Om]
theorem Qjz{r:BR}{k:Fin 3}(h:r.word=useW k):∃w v t m,r=.use k w v t m:=by
 have a:r.kind=6+k.val:=by
  have e:useW k=wordOf (6+k.val):=by match k with | 0=>rfl | 1=>rfl | 2=>rfl
  exact(Xx r (by have:=k.isLt;lia)).mp (h.trans e)
 cases r with
 |use k' w v t m=>
  have e:6+k'.val=6+k.val:=a
  have i:k'=k:=Fin.ext Om
  subst i
  exists w,v,t,m,rfl
 |days n=>exact Y21 (show(0:Nat)=6+k.val from a) Om
 |bench b r=>exact Y21 (show(1:Nat)=6+k.val from a) Om
 |shut b f t=>exact Y21 (show(2:Nat)=6+k.val from a) Om
 |store b m f=>exact Y21 (show(3:Nat)=6+k.val from a) Om
 |work w=>exact Y21 (show(4:Nat)=6+k.val from a) Om
 |way w v l c=>exact Y21 (show(5:Nat)=6+k.val from a) Om
 |after w x g=>exact Y21 (show(9:Nat)=6+k.val from a) (by have:=k.isLt;lia)
 |late w d c=>exact Y21 (show(10:Nat)=6+k.val from a) (by have:=k.isLt;lia)
theorem use4{r:BR}{k:Fin 3}{w t:Str}:r.cells.take 4=[inr (useW k),inr w,inr v,inr t]↔∃m,r=.use k w v t m:=by
 constructor
 .intro h
  have e:r.word=useW k:=by
   have b:(r.cells.take 4).head?=some (inr (useW k)):=by rw[h];rfl
   have a:(r.cells.take 4).head?=some (inr r.word):=by cases r<;>rfl
   rw[a]at b
   exact Y37 (Y5 b)
  obtain⟨n,c,j,m,rfl⟩:=Qjz e
  have i:[(inr (useW k):Key),inr n,inr c,inr j]=[inr (useW k),inr w,inr v,inr t]:=h
  injection i with _ a
  injection a with g f
  injection f with o l
  injection l with d
  cases g
  cases o
  cases d
  exists m,rfl
 .rintro⟨m,rfl⟩
  rfl
theorem manyOf_some{k:Fin 3}{w t:Str}{r:BR}{x:Int}:Zz k w v t r=some x↔r=.use k w v t x:=by
 constructor
 .intro h
  cases r with
  |use k' w' v' t' m=>
   have a:(if k'=k/\w'=w/\v'=v/\t'=t then some m else none)=some x:=h
   by_cases e:k'=k/\w'=w/\v'=v/\t'=t
   .rw[Y22 e]at a
    cases a
    obtain⟨rfl,rfl,rfl,rfl⟩:=e
    rfl
   .rw[Y20 e]at a;cases a
  |_=>cases h
 .rintro rfl
  exact Y22 ⟨rfl,rfl,rfl,rfl⟩
inductive Qvc(k0:Fg)(vs:List V)(H:Hp)(Q:VK)(E:XK):Prop|mk(d:Addr)(k:Fin 3)(w v t:Str)(us:List V)(B:List BR)(_:vs=[.ref d,.str (useW k),.str w,.str v,.str t])(_:H d=some (.lst us))(_:RowsB H us B)(_:B.length<=1000)(_:∀(H':Hp),Same H H'->Q (.int (Yv B k w v t)) H'):Qvc k0 vs H Q E
theorem scMany:FnScope ["_law_book_here","_law_word","_law_work","_law_way_here","_law_thing"] ["_law_book_here","_law_word","_law_work","_law_way_here","_law_thing"] (Qh Qot):=Sc
theorem okMany(F:Fn K mg "_law_many" Qot)(M:Mg mg):Cal P w K mg base 1 "_law_many" ["_law_book_here","_law_word","_law_work","_law_way_here","_law_thing"] (Qvc K):=by
 refine Xv F scMany (a:=fun f O A i s H T Q E c h=>?_)
 obtain⟨d,k,w,v,t,V,B,rfl,C,z,X,q⟩:=h
 have g:=Z6 6 c.un
 exists _,(Qi (Qx (Qr (Vr rfl) rfl M.sum Qjf (Qa (Yh ["_law_row","_law_word","_law_work","_law_way_here","_law_thing"] [none,some 1,some 2,some 3,some 4] rfl (Xd (pv 0)) (fun _ _ _=>(Z3 0 (show(["_law_row","_law_word","_law_work","_law_way_here","_law_thing"]:List Str).Nodup by decide +kernel))) (fun _ _ _=>(Zh (Ql (Qjm (K:=K) (n:=6) rfl g) (Xc (Jq (K:=K) rfl) (pv 0) Xn (Xe Qe)) (Xg (Qa (pv 1) (Qa (pv 2) (Qa (pv 3) (Qa (pv 4) Qf))))) (Qp _)))) (fun _ _ _=>(Qs (Xw (K:=K) rfl) (pv 0) Qe))) Qf)))),?_
 exists"z"
 have lu:=z.length
 exists _,rfl,d,rfl,⟨_,Qb C⟩,fun D N=>Qab (f:=Zz k w v t) (fun _ v x=>v=.int x) (fun _ e=>e) (fun _ e=>e) rfl C z X N (fun r G J hm L c P1 P2 Z R=>?_) (fun ys J L o S=>?_)
 .refine⟨_,rfl,_,rfl,G,_,rfl,Qb c,fun p U=>?_⟩
  rw[cut4]
  have Y:=Qd U (.lst ((r.cells.take 4).map kV))
  exists _,rfl,_,rfl,_,rfl,_,rfl,Z1 4,fun W l=>?_
  have I:=Qd l (.lst [.str (useW k),.str w,.str v,.str t])
  have a:=Y.trans I
  exists p,W,r.cells.take 4,[inr (useW k),inr w,inr v,inr t],rfl,rfl,Qb (I _ _ Qc),Qb Qc,fun b u=>⟨_,rfl,ite2 (fun y=>?_) (fun y=>?_)⟩
  .obtain⟨j,rfl⟩:=use4.mp (u.mp y)
   exists _,rfl,G,_,_,_,rfl,rfl,Qb (a _ _ c),(show atI ((BR.use k w v t j).cells.map kV) 4=some (.int j)from rfl),Z _ _ j (manyOf_some.mpr rfl) a rfl
  .refine R ?_ _ a
   cases e:Zz k w v t r with
   |none=>rfl
   |some x=>exact Y21 (u.mpr (use4.mpr ⟨x,manyOf_some.mp e⟩)) y
 .rw[Vb S]at o
  exists D,_,rfl,Qb o,q J L
end
end Nb
variable{r:Nb.BR}{B B':List Nb.BR}
namespace L2
open PySem PySem.Spec PyProof.Rows
theorem Qbo:isSubtype (.type "range_iterator") (.type "reversed")=pure false:=by rw[isSubtype_type];kernel_rfl
def Qef(n:Int):Obj:={ cls:=.type "range_iterator",data:=.fields #[rawInt (0+(n-1)*1),rawInt n,rawInt (-1)] }
section
variable{w:World}
theorem Qou(a:0<=n):Builtin.Range.rangeSize 0 n 1=n:=by
 rw[rangeSize_one]
 split<;>lia
theorem Vc{r:Addr}{t u v:Tok}{Q:VP}(b:s.heap.get? r=some { cls:=.type "range",data:=.fields #[.int 0 t,.int n u,.int 1 v] })(c:0<=n)(e:n<1000000)
  (h:Q (.ref (qa s)) { s with heap:=s.heap.push (Qef n) }):qe prog w A (call (.builtin "range.__reversed__") [.ref r]) Q E s:=by
 refine Y25 F.slot_range_reversed ⟨_,b,rfl⟩ F.entry_range_reversed ?_ (F.args_range_reversed_1 _)
 unfold Builtin.«range.__reversed__»
 refine jQ (Y32 (a:=Value.ref r) rfl ?_)
 refine jQ ?_
 unfold Builtin.Range.rangeFields
 refine jQ (Y23 b rfl (x:=.int 0 t) rfl ?_)
 refine jQ (Y32 (a:=some 0) rfl ?_)
 refine jQ (Y23 b rfl (x:=.int n u) rfl ?_)
 refine jQ (Y32 (a:=some n) rfl ?_)
 refine jQ (Y23 b rfl (x:=.int 1 v) rfl ?_)
 refine jQ (Y32 (a:=some 1) rfl ?_)
 refine kQ ?_
 have d:(Builtin.Range.rangeFitsLong 0&&Builtin.Range.rangeFitsLong n&&Builtin.Range.rangeFitsLong 1&&Builtin.Range.rangeFitsLong (-1)&&Builtin.Range.rangeFitsLong (0-1)&&Builtin.Range.rangeFitsLong (Builtin.Range.rangeSize 0 n 1))=true:=by
  rw[Qou c]
  simp only[Builtin.Range.rangeFitsLong,wV,decide_eq_true_eq]
  lia
 dsimp only
 rw[d,Qou c]
 rw[Y20 Dc,Y22 rfl]
 unfold newFields
 exact jQ (Y26 (kQ ⟨_,rfl,h⟩))
theorem Vd{r:Addr}{t u v:Tok}(b:s.heap.get? r=some { cls:=.type "range",data:=.fields #[.int 0 t,.int n u,.int 1 v] })(c:0<=n)(d:n<1000000)
  (h:Q₁ (.ref (qa s)) { s with heap:=s.heap.push (Qef n) }) :
  codeAny (model prog w) A (.call (.builtin "reversed.__new__") ⟨[.type "reversed",.ref r],[]⟩) (wants Q₁ E) s:=by
 refine codeAny_of_tree ?_
 show wpAny _ A.in1 (do checkBuiltinCall "reversed.__new__" ⟨[.type "reversed",.ref r],[]⟩;again (.builtin "reversed.__new__" ⟨[.type "reversed",.ref r],[]⟩)) _ _ s
 refine jQ (Y32 (F.newCall_reversed_1 _) (kQ ⟨kXd F.plain_reversed_new _,Y28 F.entry_reversed_new ?_⟩))
 rw[Y35 F.plain_reversed_new _]
 unfold Builtin.«reversed.__new__»
 refine jQ (Y32 (newClass_reversed _) ?_)
 try dsimp only
 refine jQ (Y32 (a:=()) (by first | rfl | kernel_rfl) ?_)
 refine jQ (Y32 (a:=()) (by first | rfl | kernel_rfl) ?_)
 try dsimp only
 refine jQ (Y64 (T:="range") ⟨_,b,rfl⟩ F.slot_range_reversed.lookup ?_)
 try dsimp only
 refine jQ (Y32 (F.slot_range_reversed.bind _) ?_)
 try dsimp only
 first
 |rw[Y20 (show ¬((Value.builtin "range.__reversed__" == Value.none)=true)from yY)]
 |(show wpAny _ _ (if (Value.builtin "range.__reversed__" == Value.none)=true then _ else _) _ _ _;rw[Y20 (show ¬((Value.builtin "range.__reversed__" == Value.none)=true)from yY)])
 refine jQ (Y58 ?_)
 refine jQ (m:=runValue (.call (.builtin "range.__reversed__") ⟨[.ref r],[]⟩)) (show wpAny _ _ (call (.builtin "range.__reversed__") [.ref r]) _ _ _ from Vc b c d ?_)
 first
 |exact kQ h
 |exact jQ (kQ (kQ h))
theorem Ve{r:Addr}{t u v:Tok}{Q:VP}(c:s.heap.get? r=some { cls:=.type "range",data:=.fields #[.int 0 t,.int n u,.int 1 v] })(d:0<=n)(e:n<1000000)
  (h:Q (.ref (qa s)) { s with heap:=s.heap.push (Qef n) }):qe prog w A (call (.type "reversed") [.ref r]) Q E s:=by
 refine callType_other (U:="range_iterator") (Q₁:=fun b a=>b=.ref (qa s)/\a={ s with heap:=s.heap.push (Qef n) }) Dk F.create_reversed ⟨_,_,F.mro_reversed⟩ F.made_reversed Qbo (F.typeCall_reversed_1 _) (Vd c d e ⟨rfl,rfl⟩) ?_
 rintro b a ⟨rfl,rfl⟩
 exists ⟨_,yJ _ rfl,rfl⟩,h
end
def iRevR(ta:TA):TI:=fun σ H R=>ta σ H fun vs H1=>∃(p:Addr) (n:Nat),vs=[.ref p]/\H1 p=some (.rng 0 ((n:Nat):Int))/\n<1000000/\R (Itr3 (((n:Nat):Int)-1) (-1) n) H1
theorem Qxc{a:Expr}{p:Pos}(x:Gl X "reversed")(F:X.mg "reversed"=none)(z:PA X [a] ta)(A:qb (starEach [a] X.env=[(false,eval a X.env)])) :
  PI X tg (.Call (.Name "reversed" p) [a] [] pos) (iRevR ta):=by
 intro d s m H R I h
 refine Call_ (Kp I x F Qhm (Y38 (thn (z pos d s m H _ I h) fun M c i=>?_) A rfl))
 obtain⟨L,j,f,r,K⟩:=i
 obtain⟨l,n,e,C,N,q⟩:=K
 subst e
 obtain⟨u,rfl,J⟩:=r.one
 cases J
 obtain⟨t,u,v,G⟩:=(show ObjOk X.prog X.w j c.heap l (.rng 0 ((n:Nat):Int))from f.hok l _ C)
 refine Ve G Om Om ?_
 have g:(c.heap.push (Qef ((n:Nat):Int))).get? (qa c)=some (Qef ((n:Nat):Int)):=yJ _ rfl
 have k:IsRangeIter (c.heap.push (Qef ((n:Nat):Int))) (qa c) ((((n:Nat):Int)-1)+((0:Nat):Int)*(-1)) (((n:Nat):Int)-((0:Nat):Int)) (-1):=by
  have E:(((n:Nat):Int)-1)+((0:Nat):Int)*(-1)=0+(((n:Nat):Int)-1)*1:=Om
  have B:((n:Nat):Int)-((0:Nat):Int)=((n:Nat):Int):=Om
  rw[E,B]
  exact g
 refine wpAny_pyIter_rangeiter (s:={ c with heap:=c.heap.push (Qef ((n:Nat):Int)) }) k ?_
 have D:Inv X d m j { c with heap:=c.heap.push (Qef ((n:Nat):Int)) }:=f.kept (t':=c.toks) fun b o e=>jW _ e
 exists (qa c),[(qa c)],_,_,j,rfl,D,Qhr _ (((n:Nat):Int)-1) (-1) n,k,fun b y=>?_,q
 have e:b=(qa c):=by simpa using y
 subst e
 exact f.fpOk (jJ _) (f.hok.fresh (jJ _))
theorem is_kV{w:World}{k:Key}(h:(Xm P w).is k u=true):RelV (kV k) u:=by
 rw[Qkz]at h
 rcases Yi h with⟨i,t,rfl,rfl⟩ | ⟨x,t,rfl,rfl⟩
 .exact⟨t,rfl⟩
 .exact⟨t,rfl⟩
section
variable{kvs:List (Key×V)}
def NF(X:Cx)(d:Addr):Prop:=∀o u,X.H₀ d≠some (.frz o u)
theorem Inv.nf(I:Inv X pins σ H s)(e:H d=some (.dK kvs)):NF X d:=fun o u z=>by
 have:=I.base.frzs d o u z
 rw[e]at this
 cases this
theorem Inv.freeze(I:Inv X pins σ H s)(e:H d=some (.dK kvs)):∃o,s.heap.get? d=some o/\Inv X pins σ (upd H d (.frz o (.dK kvs))) s:=by
 obtain⟨z,g,f,b,c⟩:=Qfs I.hok e
 obtain⟨o,j,i,a,h⟩:=id c
 exists o,a,We (t':=s.toks) I (by rw[e];exact True.intro) (Heap.SameBut.refl _ _) ⟨o,a⟩ ⟨a,z,g,f,b,c⟩
theorem Inv.thaw(I:Inv X pins σ H s)(nf:NF X d)(e:H d=some (.frz o (.dK kvs))):Inv X pins σ (upd H d (.dK kvs)) s:=by
 have g:∀b,H b=none->b≠d:=fun b n z=>by rw[z,e]at n;cases n
 have ok:ObjOk X.prog X.w H s.heap d (.frz o (.dK kvs)):=I.hok d _ e
 obtain⟨_,z,A,v,h,C⟩:=ok
 exists I.ok,I.os,I.bare,⟨I.base.keep,I.base.slot,fun b q t n D=>?_,I.base.there,fun b i q=>?_,fun b E u q=>?_,fun b ps q=>?_⟩,I.loc,I.cell,?_,fun x c q=>?_,fun p B=>?_,fun b u q=>?_,I.len
 .have f:=I.base.free b q t n D
  rw[Qj (g b f)];exact f
 .have a:=I.base.tups b i q
  rw[Qj (Ym a e (by intro z;cases z))];exact a
 .have a:=I.base.frzs b E u q
  rw[Qj (fun z=>by subst z;exact nf _ _ q)];exact a
 .obtain⟨m,a⟩:=I.base.tbls b ps q
  exists m,by rw[Qj (Ym a e (by intro z;cases z))];exact a
 .rw[Qj (g _ I.free)];exact I.free
 .have f:=I.freeC x c q
  rw[Qj (g _ f)];exact f
 .obtain⟨y,k,l⟩:=I.pin p B
  exists y,by rw[Qj (g _ k)];exact k,l
 .by_cases j:b=d
  .subst j
   rw[Qc]at q
   cases q
   exists z,A,v,h,C
  .rw[Qj j]at q
   exact(I.hok b u q).stay (fun _ _ _ r=>r) (fun c r=>by rw[Qj (Ym r e (by intro z;cases z))];exact r) fun c i r=>by rw[Qj (Ym r e (by intro z;cases z))];exact r
end
def Itd(d:Addr)(o:Obj)(kvs:List (Key×V)):It :=
  ⟨fun i H=>H d=some (.frz o (.dK kvs))/\i<kvs.length,
   fun i H v H'=>∃T k x,v=.ref T/\H T=none/\H'=upd H T (.tup [kV k,x])/\kvs[i]?=some (k,x),
   fun i H=>H d=some (.frz o (.dK kvs))/\kvs.length<=i⟩
def dTn(it d:Addr)(o:Obj)(n i:Nat)(h:Heap):Prop:=∃es ep ok ov,o.data=.dict es ep/\IsItemIter h it d i n ep ok ov
theorem Qov{w:World}{h:Heap}{kvs:List (Key×V)}{es:Array DictEntry}(ok:HOk P w H h)(e:H d=some (.frz o (.dK kvs)))(b:o.data=.dict es ep):∃vs,KV kvs vs/\h.DictAt (Xm P w) d vs ep:=by
 obtain⟨g,z,n,vs,a,m,i,k,f,j,c,l⟩:=(show ObjOk P w H h d (.frz o (.dK kvs))from ok d _ e)
 rw[g]at f
 cases f
 rw[b]at c
 cases c
 exists vs,a,o,es,g,j,b,l
theorem Qlu{w:World}{kvs:List (Key×V)} :
  Turn P w K (.Tuple es kk tp) (Itd d o kvs) [it] it (dTn it d o kvs.length) where
 mem:=by simp
 obj:=fun i h j c a=>by
  obtain⟨_,_,ok,A,_,f⟩:=j
  simp only[kK,jXc,or_false]at a
  subst a
  exists _,f,fun v z=>by cases z
 keep:=fun i h h' j k=>by
  obtain⟨r,e2,ok,A,m,f⟩:=j
  exists r,e2,ok,A,m,k it (by simp) _ f
 item:=by
  intro X L J G a i g s M H E I y j B
  subst L J G
  obtain⟨S,T⟩:=B
  obtain⟨r,Z,ok,A,m,f⟩:=j
  obtain⟨vs,l,D⟩:=Qov I.hok S m
  have p:=l.length
  obtain⟨Q,ek⟩:∃Q,kvs[i]?=some Q:=⟨_,gE T⟩
  obtain⟨k,x⟩:=Q
  obtain⟨⟨k',v⟩,ev,e4,rv⟩:=Xh l ek
  have F:k=k':=e4
  subst F
  rw[p]at f
  refine wpAny_pyNext_items_item f D ev fun key h' hk U a2 a3 a4=>⟨_,rfl,?_⟩
  obtain⟨u,R,f2,O,C,N⟩:=y it (by simp)
  have n:it<(qa s):=zQ f
  have I1:Inv X g M (upd H (qa s) (.tup [kV k,x])) { s with heap:=h' }:=I.tupNew (ch:=[it]) (its:=[key,v]) (jJ _) (.cons (is_kV hk) (.cons rv .nil)) (Z1 2) a2 y (fun c q a e=>a4 c q (by simpa using a) e) (fun c a=>by
   simp only[kK,jXc,or_false]at a
   subst a
   exists _,U)
  refine wpAny_letOwnedTupleGo_items (s:={ s with heap:=h' }) U fun Y g1 g2=>?_
  have I2:Inv X g M (upd H (qa s) (.tup [kV k,x])) { s with heap:=Y }:=I1.turned (h':=Y) (t':=s.toks) (fun c q a z=>g2.extBut c q a z) (by rw[Qj (xZ n)];exact u) R O C N
  exists .ref (qa s),_,I2,rfl,⟨_,k,x,rfl,I.hok.fresh (jJ _),rfl,ek⟩,⟨r,Z,_,_,m,by rw[p];exact g1⟩,fun c a=>?_
  simp only[kK,jXc,or_false]at a
  subst a
  rw[Qj (xZ n)]
  exact u
 done:=by
  intro X L J G a i g s M H E I y j B
  subst L J G
  obtain⟨S,T⟩:=B
  obtain⟨r,Z,ok,A,m,f⟩:=j
  obtain⟨vs,l,D⟩:=Qov I.hok S m
  have p:=l.length
  rw[p]at f
  obtain⟨u,R,f2,O,C,N⟩:=y it (by simp)
  exact wpAny_pyNext_items_end (I.ok.hd a) f D (kKc.mpr Om) fun h' eb=>⟨rfl,I.turned (t':=s.toks) (fun b o hb z=>eb b o hb z) u R O C N⟩
 self:=fun _ _ _ _ _ j h=>by
  obtain⟨_,_,_,_,_,f⟩:=j
  exact PySem.W.kcp_self f h
def iItems(F:Addr->Prop)(td:TE):TI:=fun σ H R=>td σ H fun v H1=>∃d kvs,v=.ref d/\H1 d=some (.dK kvs)/\(F d->∀o,R (Itd d o kvs) (upd H1 d (.frz o (.dK kvs))))
theorem Qtc{a:Expr}{td:TE}{apos:Pos}(T:PE X a td)(j:qb (attributeBase a "items" X.env (eval a X.env)=eval a X.env))(k:qb ((apos.endLine == cpos.line)=true)) :
  PI X (.Tuple es kk tp) (.Call (.Attribute a "items" apos) [] [] cpos) (iItems (NF X) td):=by
 intro g s A H R I h
 refine wpAny_Call_method0_late j k (thn (T g s A H _ I h) fun v f r=>?_)
 obtain⟨x,L,n,N,q1⟩:=r
 obtain⟨d,i,e,m,q⟩:=q1
 subst e
 obtain rfl:v=Value.ref d:=N
 obtain⟨C,W,O⟩:=Qnz n (.inl ⟨i,.inl m⟩)
 exists "dict","dict.items",PySem.F.plainAttrs_dict,PySem.F.slot_dict_items,PySem.F.type_dict_items,C,W,Y39 rfl (PySem.evalArgs_none ?_)
 have nf:=n.nf m
 obtain⟨o,Y,V⟩:=n.freeze m
 obtain⟨z,aa,S,Z,E⟩:=Qfs n.hok m
 obtain⟨o',y,G,M,h2,K,h4⟩:=id E
 rw[Y]at M
 cases M
 refine Y50 PySem.F.slot_dict_items C PySem.F.entry_dict_items (PySem.F.args_dict_items_1 _) (meets_dict_items (Xm X.prog X.w) d O) ⟨⟨S,E⟩,?_⟩
 have Q:(f.heap.push { cls:=.type "dict_items",data:=.fields #[.ref d] }).objs.size=(qa f)+1:=jJd ..
 have B:(f.heap.push { cls:=.type "dict_items",data:=.fields #[.ref d] }).get? (qa f)=some { cls:=.type "dict_items",data:=.fields #[.ref d] }:=yJ _ rfl
 have J:∀b o,f.heap.get? b=some o->(f.heap.push { cls:=.type "dict_items",data:=.fields #[.ref d] }).get? b=some o:=fun b o z=>jW _ z
 generalize f.heap.push { cls:=.type "dict_items",data:=.fields #[.ref d] }=h' at Q B J
 have p:Inv X g A (upd L d (.frz o (.dK i))) { f with heap:=h' }:=V.kept (t':=f.toks) J
 obtain⟨u,l,P⟩:=Qov p.hok Qc K
 have U:=l.length
 refine wpAny_pyIter_items (s:={ f with heap:=h' }) ⟨_,B,rfl,rfl⟩ P ?_
 have I4:Inv X g A (upd L d (.frz o (.dK i))) { f with heap:=h'.push { cls:=.type "dict_itemiterator",data:=.fields #[.none,.bool false,.ref d,.int 0 0,.int u.length 0,.int G 0,.none,.none] } }:=p.kept (t':=f.toks) fun b o z=>jW _ z
 exists h'.objs.size,[h'.objs.size],_,Itd d o i,_,rfl,I4,Qlu,⟨y,G,.none,.none,K,?_⟩,fun c D=>?_,q nf o
 .rw[U]
  exact yJ _ rfl
 .simp only[kK,jXc,or_false]at D
  subst D
  exact p.fpOk (jJ _) (p.hok.fresh (jJ _))
def Thw(F:Addr->Prop)(D:Ends):Ends where
 nx:=fun σ H=>∃d o kvs,F d/\H d=some (.frz o (.dK kvs))/\D.nx σ (upd H d (.dK kvs))
 rt:=fun v H=>∃d o kvs,F d/\H d=some (.frz o (.dK kvs))/\D.rt v (upd H d (.dK kvs))
 bk:=fun σ H=>∃d o kvs,F d/\H d=some (.frz o (.dK kvs))/\D.bk σ (upd H d (.dK kvs))
 ct:=fun σ H=>∃d o kvs,F d/\H d=some (.frz o (.dK kvs))/\D.ct σ (upd H d (.dK kvs))
def tThw(F:Addr->Prop)(t:TS):TS:=fun D σ H=>t (Thw F D) σ H
theorem Qxd{t:TS}(h:PS X st t):PS X st (tThw (NF X) t):=by
 intro g s j H D I q
 refine thn (h g s j H _ I q) fun f l p=>?_
 cases f with
 |next=>obtain⟨a,i,b,d,o,c,nf,e,r⟩:=p;exists a,_,b.thaw nf e,r
 |brk=>obtain⟨a,i,b,d,o,c,nf,e,r⟩:=p;exists a,_,b.thaw nf e,r
 |cont=>obtain⟨a,i,b,d,o,c,nf,e,r⟩:=p;exists a,_,b.thaw nf e,r
 |ret u=>obtain⟨v,a,i,b,k,d,o,c,nf,e,r⟩:=p;exists v,a,_,b.thaw nf e,k,r
theorem Qow{kvs:List (Key×V)}(a:Nat->St->Hp->Prop)(t:a 0 σ H)(s:∀i σ H,i<=kvs.length->a i σ H->H d=some (.frz o (.dK kvs)))
  (l:∀i k x σ H T,kvs[i]?=some (k,x)->a i σ H->H T=none->g (.ref T) σ (upd H T (.tup [kV k,x])) fun σ2 H2=>tb { D with nx:=a (i+1),ct:=a (i+1),bk:=D.nx } σ2 H2) (j:∀σ H,a kvs.length σ H->D.nx σ H) :
  ∃W:Nat->Nat->St->Hp->Prop,(∃m,W 0 m σ H)/\∀i n σ H,W i n σ H ->
   ((Itd d o kvs).stop i H/\D.nx σ H)\/((Itd d o kvs).go i H/\∃N:St->Hp->Prop,(∀σ' H',N σ' H'->∃m',m'<n/\W (i+1) m' σ' H')/\∀x H',(Itd d o kvs).yld i H x H'->g x σ H' fun σ2 H2=>tb { D with nx:=N,ct:=N,bk:=D.nx } σ2 H2):=by
 exists fun i n σ H=>n=kvs.length-i/\i<=kvs.length/\a i σ H,⟨_,rfl,wJ _,t⟩,?_
 rintro i n σ H ⟨rfl,h,p⟩
 have c:=s i σ H h p
 by_cases b:i<kvs.length
 .refine .inr ⟨⟨c,b⟩,a (i+1),fun σ' H' q=>⟨kvs.length-(i+1),Om,rfl,b,q⟩,fun x H' y=>?_⟩
  obtain⟨T,k,u,rfl,f,rfl,r⟩:=y
  exact l i k u σ H T r p f
 .have e:i=kvs.length:=Om
  subst e
  exact .inl ⟨⟨c,jJ _⟩,j σ H p⟩
end L2
namespace Nb
open PySem L2
abbrev Qlv:Stmt:=top 42
def Zu:BR->Option Str
 |.work w=>some w
 |_=>none
def wks(B:List BR):List Str:=B.filterMap Zu
theorem Vy(h:r.word≠"work"):Zu r=none:=by
 cases r with
 |work w=>exact Y21 rfl h
 |_=>rfl
theorem wks_mem:w∈wks B↔BR.work w∈B:=by
 unfold wks
 rw[xX]
 constructor
 .rintro⟨r,a,e⟩
  cases r with
  |work w'=>cases e;exact a
  |_=>cases e
 .exact fun h=>⟨_,h,rfl⟩
theorem Qka(h:WB n B):(wks B).Nodup:=by
 unfold wks List.Nodup
 rw[yQc]
 refine h.nd.imp fun{r q} a w hw w' hw' e=>?_
 cases r with
 |work x=>
  cases hw
  cases q with
  |work y=>
   cases hw'
   subst e
   rcases a with z | z | z
   .exact Y21 z (Sn "work" "shut")
   .exact Y21 z (Sn "work" "shut")
   .exact z rfl
  |_=>cases hw'
 |_=>cases hw
theorem PlanAt.same(h:PlanAt K H d pl)(s:Same H H'):PlanAt K H' d pl:=by
 obtain⟨a,c,b⟩:=h
 exists a,s _ _ c,Paired.mapP b fun _ _ ⟨e,t,e2,z⟩=>⟨e,t,e2,s.tup z⟩
theorem Qag{P t:Addr}{kvs kvs':List (Key×V)}(a:H P=some (.dK kvs))(h:SqT K H t xs):SqT K (upd H P (.dK kvs')) t xs:=by
 rcases h with(h | ⟨p,h⟩) | h
 .exact .inl (.inl (by rw[Qj (Ym h a (by intro z;cases z))];exact h))
 .exact .inl (.inr ⟨p,by rw[Qj (Ym h a (by intro z;cases z))];exact h⟩)
 .exact .inr h
def hasW(B:List BR)(w:Str):Bool:=!(B.filter (Zk w)).isEmpty
theorem Qxe{yw:List V}(l:yw.length=(B.filter (Zk w)).length):hasW B w=!yw.isEmpty:=by
 unfold hasW
 generalize B.filter (Zk w)=L at l⊢
 cases yw with
 |nil=>cases L with
  |nil=>rfl
  |cons a b=>exact nomatch l
 |cons c d=>cases L with
  |nil=>exact nomatch l
  |cons a b=>rfl
theorem hasW_iff:hasW B w=true↔∃v l c,BR.way w v l c∈B:=by
 unfold hasW
 constructor
 .intro h
  cases e:B.filter (Zk w)with
  |nil=>rw[e]at h;cases h
  |cons r L=>
   have d:r∈B.filter (Zk w):=by rw[e];exact jY
   obtain⟨f,a⟩:=zV.mp d
   cases r with
   |way w' v l c=>
    have g:w'=w:=kZ a
    subst g
    exists v,l,c,f
   |_=>cases a
 .rintro⟨v,l,c,h⟩
  have b:BR.way w v l c∈B.filter (Zk w):=zV.mpr ⟨h,yX rfl⟩
  cases e:B.filter (Zk w)with
  |nil=>rw[e]at b;exact nomatch b
  |cons r L=>rfl
structure PlanFor(n:Int)(B:List BR)(pl:Z7):Prop where
 keys:(pl.map (·.1)).Perm ((wks B).filter (hasW B))
 good:∀p∈pl,∃l c,BR.way p.1 p.2.1 l c∈B/\0<=p.2.2/\p.2.2+l<=n
theorem Ja{kvs:List (Key×V)}(h:Paired (fun(p:Key×V) (q:Str×Str×Int)=>p.1=inr q.1/\∃t,p.2=.ref t/\SqT K H t [.str q.2.1,.int q.2.2]) kvs pl):kvs.map (·.1)=(pl.map (·.1)).map inr:=by
 induction h with
 |nil=>rfl
 |cons z _ ih=>rw[zX,zX,zX,ih,z.1]
theorem Qkb{κ:Type}[DecidableEq κ]{kvs:List (κ×V)}{k:κ}(h:k∉kvs.map (·.1)):valV kvs k=none:=by
 cases e:valV kvs k with
 |none=>rfl
 |some v=>exact Y21 (Qwk e) h
inductive Qvd(K:Fg)(vs:List V)(H:Hp)(Q:VK)(E:XK):Prop|mk(a d:Addr)(ns:List Int)(st n:Int)(us:List V)(B:List BR)(_:vs=[.ref a,.int st,.ref d])(_:SqL K H a (ns.map V.int))(_:0<=st)(_:st<=1000)(_:H d=some (.lst us))(_:RowsB H us B)(_:BookOk n B)(_:∀(P:Addr) (pl:Z7) (H':Hp),Same H H'->H P=none->PlanAt K H' P pl->PlanFor n B pl->Q (.ref P) H'):Qvd K vs H Q E
section
variable{w:World}
theorem scPlan:FnScope ["_law_script","_law_start","_law_book_here","_law_found","_law_works_here","_law_k","_law_ways_here","_law_number","_law_way_here"] ["_law_script","_law_start","_law_book_here"] (Qh Qlv):=Sc
theorem okPlan(F:Fn K mg "_law_plan" Qlv)(M:Mg mg)(C:Cal P w K mg base 2 "_law_mixed" ["_law_script","_law_k"] (Kb K))(L:Cal P w K mg base 1 "_law_ways" ["_law_book_here","_law_work"] (Qjy K)):Cal P w K mg base 3 "_law_plan" ["_law_script","_law_start","_law_book_here"] (Qvd K):=by
 refine Xv F scPlan (a:=fun f aB A ap s H vs Q E R h=>?_)
 obtain⟨a,d,ns,st,n,us,B,rfl,hS,aH,aC,hd,hB,bk,q⟩:=h
 have ao:=Z6 6 R.un
 have hu:=Z6 1 R.un
 refine⟨_,(Qg (Z4 3 scPlan.nd Qjj)
  (Qg (Zv (i:=4) ["_law_row"] [none] rfl scPlan.nd rfl (inl rfl) (Xd (pv 2)) (fun _ _ _=>(Z3 0 Z2)) (fun _ _ _=>(Zh (Ql Ye (Qs (Xw (K:=K) rfl) (pv 0) Qe) Qq (Qp _)))) (fun _ _ _=>(Qs (Xw (K:=K) rfl) (pv 0) Qe)))
  (Qg (Yb Y33 rfl (Qxc rfl M.reversed_ (Qa (Qsb M.range_ (Qa (Qr Qu rfl M.len Xr (Qa (pv 4) Qf)) Qf)) Qf)) (Z3 5 scPlan.nd) (Qg (Z4 6 scPlan.nd (Xk L (R.mono Dc) (Qa (pv 2) (Qa (Qs Qn (pv 4) (pv 5)) Qf))))
  (Qi (Xp (Ql (Qsf (K:=K) (n:=6) rfl ao) (pv 6) (Xg Qf) (Qp _)) (Qg (Z4 7 scPlan.nd (Xk C (R.mono Dc) (Qa (pv 0) (Qa (Qk Qy (pv 1) (pv 5)) Qf))))
  (Qg (Z4 8 scPlan.nd (Qs Qn (pv 6) (Qk Xf (pv 7) (Qr Qu rfl M.len Xr (Qa (pv 6) Qf)))))
  (Qi (Qny hu (pv 3) (Qs Qn (pv 4) (pv 5)) (Yf (Qa (Qs Qn (pv 8) Qe) (Qa (Qk Xf (Qk Xt (pv 7) Qe) (Qk Qy (Qk Qal (Qs Qn (Qs Qn (pv 2) Qe) Qe) (Qs Qn (pv 8) Qe)) Qe)) Qf))) rfl)))) Qv))))
  (Qi (Qx (pv 3)))))),?_⟩
 refine Km ?_;intros
 exists"z"
 have lu:=hB.length
 have bl:=bk.wb.len
 intro P hP
 have s0:=Qd hP (.dK [])
 have ai:upd H P (.dK []) P=some (.dK []):=Qc
 generalize upd H P (.dK [])=H0 at s0 ai⊢
 exists _,rfl,d,rfl,⟨_,Qb (s0 _ _ hd)⟩,fun D hD=>Qab (f:=Zu) (fun _ v x=>v=.str x) (fun _ e=>e) (fun _ e=>e) rfl (s0 _ _ hd) (hB.same s0) Om hD (fun r lr H1 hm s1 R P1 P2 k1 k2=>?_) (fun ys H1 s1 hE hi=>?_)
 .refine⟨_,rfl,lr,_,_,_,rfl,rfl,Qb R,Yl r,rfl,_,rfl,ite2 (fun y=>?_) (fun y=>k2 (Vy fun e=>y (by rw[e];exact yesS _)) _ (Same.refl _))⟩
  obtain⟨w,rfl⟩:=Kc (eqS y)
  exists _,rfl,lr,_,_,_,rfl,rfl,Qb R,(show atI ((BR.work w).cells.map kV) 1=some (.str w)from rfl),k1 _ _ w rfl (Same.refl _) rfl
 .have ey:=Zb hi
  have hL:H1 D=some (.lst ((wks B).map V.str)):=by rw[hE,ey];rfl
  have ay:=s0.trans s1
  have aI:H D=none:=by
   cases e5:H D with
   |none=>rfl
   |some o=>rw[s0 _ _ e5]at hD;cases hD
  have lw:(wks B).length<=B.length:=xQ _ _
  have lm:((wks B).map V.str).length=(wks B).length:=jX ..
  exists _,rfl,D,_,rfl,.inl (Qb hL),_,rfl,fun rr ar=>?_
  have s2:=Qd ar (.rng 0 ((((wks B).map V.str).length:Nat):Int))
  exists rr,((wks B).map V.str).length,rfl,Qc,Om,Qln (lo:=((((wks B).map V.str).length:Nat):Int)-1) (c:=-1) (n:=((wks B).map V.str).length) (fun i σ H3=>∃(v5 v6 v7 v8:Option V) (Y:Z7),σ=[some (.ref a),some (.int st),some (.ref d),some (.ref P),some (.ref D),v5,v6,v7,v8]/\PlanAt K H3 P Y/\Y.map (·.1)=(((wks B).drop ((wks B).length-i)).filter (hasW B)).reverse/\(∀p∈Y,∃l c,BR.way p.1 p.2.1 l c∈B/\0<=p.2.2/\p.2.2+l<=n)/\H3 D=some (.lst ((wks B).map V.str))/\Same H H3) ⟨none,none,none,none,[],rfl,⟨[],s2 _ _ (s1 _ _ ai),.nil⟩,?_,fun _ h=>(nomatch h),s2 _ _ hL,ay.trans s2⟩ ?_ ?_
  .rw[kYe,List.drop_length];rfl
  .rintro i σ H3 hi ⟨v5,v6,v7,v8,Y,rfl,W,m,S,I,s3⟩
   rw[lm]at hi
   obtain⟨k,hk⟩:∃k:Nat,k=(wks B).length-1-i:=⟨_,rfl⟩
   have T:k<(wks B).length:=Om
   have ek:(((((wks B).map V.str).length:Nat):Int)-1)+((i:Nat):Int)*(-1)=((k:Nat):Int):=by rw[lm];lia
   rw[ek]
   obtain⟨w,ew⟩:∃w,(wks B)[k]?=some w:=⟨_,gE T⟩
   have aw:atI ((wks B).map V.str) ((k:Nat):Int)=some (.str w):=Jy (by rw[yZ,ew];rfl)
   have e5:(wks B)[k]=w:=Y5 ((gE T).symm.trans ew)
   have ed:(wks B).drop ((wks B).length-(i+1))=w::(wks B).drop ((wks B).length-i):=by
    rw[show(wks B).length-(i+1)=k by lia,List.drop_eq_getElem_cons T,show k+1=(wks B).length-i by lia,e5]
   exists _,rfl,_,rfl,_,rfl,D,_,_,_,rfl,rfl,Qb I,aw,d,w,us,B,rfl,s3 _ _ hd,hB.same s3,Om,fun Dw O H4 s4 aE aq ah=>?_
   have ab:=ah.length
   have ad:=Qxe ab
   have aF:O.length<=B.length:=by rw[ab];exact jYa _ _
   exists _,rfl,Z1 0,fun p5 aA=>?_
   have s5:=Qd aA (.lst [])
   have G:=s4.trans s5
   have u:=s5 _ _ aq
   have X:=ah.same s5
   exists Dw,p5,O,rfl,rfl,Qb u,Qb Qc,_,rfl,ite2 (fun y=>?_) (fun y=>⟨_,_,_,_,Y,rfl,PlanAt.same W G,?_,S,G _ _ I,s3.trans G⟩)
   rotate_left
   .rw[ed,wK (by rw[ad];exact y)];exact m
   have au:hasW B w=true:=by rw[ad];exact y
   have aD:0<O.length:=by
    cases O with
    |nil=>exact nomatch y
    |cons a b=>exact Nat.succ_pos _
   generalize upd H4 p5 (.lst [])=H5 at s5 G u X⊢
   have Z:=s3.trans G
   exists _,rfl,_,rfl,_,rfl,_,_,rfl,rfl,a,ns,_,rfl,Z.seq hS,Om,Om,fun z z0 z1=>?_
   have py:(0:Int)<((O.length:Nat):Int):=Om
   have j0:=jQc z (yXa py)
   have j1:=wQ z py
   obtain⟨j,ej⟩:∃j:Nat,z % ((O.length:Nat):Int)=((j:Nat):Int):=⟨(z % ((O.length:Nat):Int)).toNat,Om⟩
   have jl:j<O.length:=Om
   obtain⟨r,lr,er,ev,R⟩:=X.get (gE jl)
   obtain⟨am,an⟩:=zV.mp (kY er)
   obtain⟨J,g,c',rfl⟩:∃J g c',r=.way w J g c':=by
    cases r with
    |way w' J g c'=>
     have e:w'=w:=kZ an
     subst e
     exists J,g,c',rfl
    |_=>cases an
   have af:=bk.wb.ok _ am
   have aJ:1<=g/\g<=n:=⟨af.1,af.2.1⟩
   have aj:atI O (z % ((O.length:Nat):Int))=some (.ref lr):=by
    rw[ej]
    exact Jy (by rw[gE jl,ev])
   exists _,rfl,_,rfl,_,rfl,Dw,_,rfl,.inl (Qb u),_,_,rfl,rfl,py,Dw,_,_,_,rfl,rfl,Qb u,aj,?_
   obtain⟨u0,ac⟩:∃u0,us[0]?=some u0:=⟨_,gE (by
    rw[lu]
    exact(jK.mp bk.hd).1)⟩
   obtain⟨r0,ld,ak,rfl,ax⟩:=(hB.same Z).get ac
   rw[bk.hd]at ak
   cases ak
   have a0:atI us 0=some (.ref ld):=Jy (k:=0) ac
   have b0:=jQc (z / 3) (show(n-g+1)≠0 by lia)
   have b1:=wQ (z / 3) (show 0<n-g+1 by lia)
   exists _,rfl,lr,_,_,_,rfl,rfl,Qb R,(show atI ((BR.way w J g c').cells.map kV) 2=some (.str J)from rfl),_,rfl,_,_,rfl,rfl,⟨Dc,Dc⟩,_,rfl,d,_,_,_,rfl,rfl,Qb (Z _ _ hd),a0,ld,_,_,_,rfl,rfl,Qb ax,(show atI ((BR.days n).cells.map kV) 1=some (.int n)from rfl),_,rfl,lr,_,_,_,rfl,rfl,Qb R,(show atI ((BR.way w J g c').cells.map kV) 3=some (.int g)from rfl),_,_,rfl,rfl,_,_,rfl,rfl,_,_,rfl,rfl,(by show 0<n-g+1;lia),Z1 2,fun t ht=>?_
   have s6:=Qd ht (.tup [.str J,.int (z / 3 % (n-g+1))])
   have ae:upd H5 t (.tup [.str J,.int (z / 3 % (n-g+1))]) t=some (.tup [.str J,.int (z / 3 % (n-g+1))]):=Qc
   generalize upd H5 t (.tup [.str J,.int (z / 3 % (n-g+1))])=H6 at s6 ae⊢
   have N:=G.trans s6
   obtain⟨al,U,aa⟩:=PlanAt.same W N
   have av:(inr w:Key)∉al.map (·.1):=fun h=>by
    rw[Ja aa,m]at h
    obtain⟨x,hx,e⟩:=zK.mp h
    cases e
    have az:=(zV.mp (List.mem_reverse.mp hx)).1
    obtain⟨j',ag⟩:=jQa.mp az
    rw[List.getElem?_drop]at ag
    have:=(List.getElem?_inj T (Qka bk.wb)).mp (ew.trans ag.symm)
    lia
   have lk:al.length<=400:=by
    have h5:=congrArg List.length (Ja aa)
    rw[jX,jX,m,List.length_reverse]at h5
    have h6:=jYa (hasW B) ((wks B).drop ((wks B).length-i))
    rw[jXb]at h6
    lia
   exists _,rfl,_,rfl,_,rfl,D,_,_,_,rfl,rfl,Qb (N _ _ I),aw,P,_,rfl,DPut.k (k:=inr w) U Om,_,_,_,_,Y++[(w,J,z / 3 % (n-g+1))],rfl,⟨_,Qc,?_⟩,?_,fun p hp=>?_,?_,fun b o e=>?_
   .rw[Qjh _ (Qkb av)]
    exact Paired.snoc (Paired.mapP aa fun _ _ ⟨e,t',e2,z'⟩=>⟨e,t',e2,Qag U z'⟩) ⟨rfl,t,rfl,Qag U (Xb ae)⟩
   .rw[yK,m,ed,jQe au,List.reverse_cons]
    rfl
   .rcases kW.mp hp with h | h
    .exact S p h
    .rw[jV.mp h];exists g,c',am,b0,(by show z / 3 % (n-g+1)+g<=n;lia)
   .rw[Qj (Ym (N _ _ I) U (by intro z';cases z'))];exact N _ _ I
   .rw[Qj (Qm e hP)];exact(s3.trans N) _ _ e
  .rintro σ H3 ⟨v5,v6,v7,v8,Y,rfl,W,m,S,I,s3⟩
   rw[lm,Nat.sub_self,jJb]at m
   exists _,rfl,q P Y H3 s3 hP W ⟨by rw[m];exact List.reverse_perm _,S⟩
end
def lenB(B:List BR)(w v:Str):Int:=(B.filterMap (lenOf w v)).headD 0
def Kt(b:Str)(day:Int):BR->Bool
 |.shut b' f t=>decide (b'=b/\f<=day/\day<t)
 |_=>false
theorem Qox(h:r.word="shut"):∃b f t,r=.shut b f t:=by
 have a:r.kind=2:=(Xx r (k:=2) Dc).mp h
 cases r with
 |shut b f t=>exists b,f,t,rfl
 |use k _ _ _ _=>exact Y21 (show 6+k.val=2 from a) Om
 |_=>exact nomatch a
def Qlw(B:List BR)(b:Str)(r day:Int):Int:=if (B.filter (Kt b day)).length=0 then r else 0
def useR(B:List BR)(b:Str)(day:Int)(p:Str×Str×Int):Int:=if p.2.2<=day/\day<p.2.2+lenB B p.1 p.2.1 then Yv B 0 p.1 p.2.1 b else 0
def Qga(B:List BR)(pl:Z7)(b:Str)(r day:Int):Int:=Qlw B b r day-(pl.map (useR B b day)).sum
def wo(H:Hp)(P:Addr):Hp:=fun c=>if c=P then none else H c
theorem Qoy{P c:Addr}{o:HO}(h:H c=some o)(n:c≠P):wo H P c=some o:=by
 unfold wo
 rw[Y20 n];exact h
theorem wo_out{P c:Addr}{o:HO}(h:wo H P c=some o):c≠P/\H c=some o:=by
 unfold wo at h
 by_cases e:c=P
 .rw[Y22 e]at h;cases h
 .rw[Y20 e]at h;exists e,h
theorem RowsB.wo{P:Addr}{kvs:List (Key×V)}{us:List V}(a:H P=some (.dK kvs))(h:RowsB H us B):RowsB (wo H P) us B:=h.imp fun _ _ _ z=>Qoy z (Ym z a (by intro e;cases e))
theorem sqT_wo{P t:Addr}{kvs:List (Key×V)}(a:H P=some (.dK kvs))(h:SqT K H t xs):SqT K (wo H P) t xs:=by
 rcases h with(h | ⟨p,h⟩) | h
 .exact .inl (.inl (Qoy h (Ym h a (by intro z;cases z))))
 .exact .inl (.inr ⟨p,Qoy h (Ym h a (by intro z;cases z))⟩)
 .exact .inr h
theorem Qoz{P:Addr}{kvs:List (Key×V)}(a:H P=some (.dK kvs))(s:Same (wo H P) H'):Same H (upd H' P (.dK kvs)):=fun c o h=>by
 by_cases e:c=P
 .subst e
  rw[a]at h
  cases h
  exact Qc
 .rw[Qj e];exact s _ _ (Qoy h e)
theorem Qtd{P:Addr}{u:HO}(s:Same H H'):Same (wo H P) (upd H' P u):=fun c o h=>by
 obtain⟨n,a⟩:=wo_out h
 rw[Qj n];exact s _ _ a
def Qkc(n:Int)(B:List BR)(pl:Z7):Prop:=∀p∈pl,∃l c,BR.way p.1 p.2.1 l c∈B/\0<=p.2.2/\p.2.2+l<=n
theorem Zl(i:WB n B)(h:BR.way w v l c∈B):lenB B w v=l:=by
 have f:∀x∈B.filterMap (lenOf w v),x=l:=fun x f=>by
  obtain⟨r,g,e⟩:=xX.mp f
  obtain⟨j,rfl⟩:=lenOf_some.mp e
  exact(i.way1 g h).1
 have d:l∈B.filterMap (lenOf w v):=xX.mpr ⟨_,h,lenOf_some.mpr ⟨c,rfl⟩⟩
 unfold lenB
 cases e:B.filterMap (lenOf w v)with
 |nil=>rw[e]at d;exact nomatch d
 |cons a b=>exact f a (by rw[e];exact jY)
def chP(B:List BR)(st:Str)(day:Int)(p:Str×Str×Int):Int:=(if p.2.2+lenB B p.1 p.2.1=day then Yv B 2 p.1 p.2.1 st else 0)-(if p.2.2=day then Yv B 1 p.1 p.2.1 st else 0)
def chR(B:List BR)(pl:Z7)(st:Str)(day:Int):Int:=(pl.map (chP B st day)).sum
def Jb(B:List BR)(pl:Z7)(st:Str)(f:Int)(day:Nat):Int:=f+((List.range (day+1)).map fun dd:Nat=>chR B pl st dd).sum
theorem Ze(f:Nat->Int)(i:Nat):((List.range (i+1)).map f).sum=((List.range i).map f).sum+f i:=by
 rw[yYa,yK,List.sum_append]
 show _+(f i+0)=_
 lia
def hasK(pl:Z7)(w:Str):Bool:=pl.any fun p=>decide (p.1=w)
theorem Qpa{kvs:List (Key×V)}(h:Paired (fun(p:Key×V) (q:Str×Str×Int)=>p.1=inr q.1/\∃t,p.2=.ref t/\SqT K H t [.str q.2.1,.int q.2.2]) kvs pl):(valV kvs (inr w)).isSome=hasK pl w:=by
 induction h with
 |nil=>rfl
 |@cons p q ps qs z _ ih=>
  unfold hasK at ih⊢
  rw[kZf]
  by_cases e:q.1=w
  .rw[Yy (z.1.trans (by rw[e])),yX e]
   rfl
  .rw[Yz (fun h=>e (Y37 (z.1.symm.trans h))),xK e,ih]
   rfl
theorem hasK_iff:hasK pl w=true↔w∈pl.map (·.1):=by
 unfold hasK
 rw[jXe]
 constructor
 .rintro⟨p,a,e⟩
  exact zK.mpr ⟨p,a,kZ e⟩
 .intro h
  obtain⟨p,a,e⟩:=zK.mp h
  exists p,a,yX e
def look(pl:Z7)(w:Str):Str×Int:=((pl.find? fun p=>decide (p.1=w)).map (·.2)).getD ("",0)
theorem Qpb{b:Int}(nd:(pl.map (·.1)).Nodup)(h:(w,v,b)∈pl):look pl w=(v,b):=by
 have e:pl.find? (fun p=>decide (p.1=w))=some (w,v,b):=by
  induction pl with
  |nil=>exact nomatch h
  |cons p pl ih=>
   have a:(p.1::pl.map (·.1)).Nodup:=nd
   obtain⟨f,c⟩:=kQb.mp a
   rcases kK.mp h with e | e
   .rw[List.find?_cons_of_pos (by rw[<-e];exact yX rfl),e]
   .have d:¬p.1=w:=fun z=>f (by rw[z];exact zK.mpr ⟨_,e,rfl⟩)
    rw[List.find?_cons_of_neg (by simpa using d)]
    exact ih c e
 unfold look
 rw[e]
 rfl
theorem PlanFor.nd(h:PlanFor n B pl)(a:WB n B):(pl.map (·.1)).Nodup:=by
 exact(h.keys.nodup_iff).mpr ((Qka a).filter _)
theorem PlanFor.get(h:PlanFor n B pl)(k:WB n B)(f:hasK pl w=true):∃l c,(w,(look pl w).1,(look pl w).2)∈pl/\BR.way w (look pl w).1 l c∈B/\0<=(look pl w).2/\(look pl w).2+l<=n:=by
 obtain⟨⟨m,v,b⟩,a,e⟩:=zK.mp (hasK_iff.mp f)
 have j:m=w:=e
 subst j
 rw[Qpb (h.nd k) a]
 obtain⟨l,c,i,d,g⟩:=h.good _ a
 exists l,c,a,i,d,g
theorem Vf{α β:Type}{R:α->β->Prop}{xs:List α}{ys:List β}(h:Paired R xs ys):∀{i:Nat} {y:β},ys[i]?=some y->∃x,xs[i]?=some x/\R x y:=by
 induction h with
 |nil=>intro i x e;exact nomatch e
 |cons z _ ih=>
  intro i x e
  match i with
  |0=>cases e;exists _,rfl,z
  |i+1=>exact ih (show _=some x from e)
theorem Qkd{P:Addr}{b:Int}(h:PlanAt K H P pl)(nd:(pl.map (·.1)).Nodup)(q:(w,v,b)∈pl):∃t,DGet H P (.str w) (some (.ref t))/\SqT K H t [.str v,.int b]:=by
 obtain⟨c,o,j⟩:=h
 obtain⟨i,s⟩:=jQa.mp q
 obtain⟨⟨k,x⟩,ex,p,t,r,m⟩:=Vf j s
 have g:k=inr w:=p
 have f:x=.ref t:=r
 subst g f
 have d:(c.map (·.1)).Nodup:=by
  rw[Ja j]
  exact List.Pairwise.map inr (fun a b (hab:a≠b) e=>hab (Y37 e)) nd
 have n:valV c (inr w)=some (.ref t):=Qjn d ex
 have l:=DGet.k (k:=inr w) o
 rw[n]at l
 exists t,l,m
def gW(pl:Z7):BR->List (List Key)
 |.work w=>if hasK pl w=true then[]else[[inr ("work":Str),inr w]]
 |_=>[]
def Ku(f:Int->Prop)[DecidablePred f](N:Nat):List Nat:=(List.range N).filter fun d=>decide (f d)
def gR(n:Int)(B:List BR)(pl:Z7):BR->List (List Key)
 |.bench b r=>(Ku (fun day=>Qga B pl b r day<0) n.toNat).map fun d:Nat=>[inr ("room":Str),inr b,Sum.inl (d:Int)]
 |_=>[]
def gS(n:Int)(B:List BR)(pl:Z7):BR->List (List Key)
 |.store st mo fi=>(Ku (fun day=>Jb B pl st fi day.toNat<0\/mo<Jb B pl st fi day.toNat) (n.toNat+1)).map fun d:Nat=>[inr ("store":Str),inr st,Sum.inl (d:Int)]
 |_=>[]
def gA(B:List BR)(pl:Z7):BR->List (List Key)
 |.after w x g=>if (look pl x).2-(look pl w).2-lenB B w (look pl w).1<g then[[inr ("after":Str),inr w,inr x]]else[]
 |_=>[]
def dueF(n:Int)(B:List BR)(pl:Z7):Option (List Key):=(B.flatMap (gW pl)++(B.flatMap (gR n B pl)++(B.flatMap (gS n B pl)++B.flatMap (gA B pl)))).head?
def DueIs(H:Hp):Option (List Key)->V->Prop
 |none,v=>v=.non
 |some ks,v=>∃T,v=.ref T/\H T=some (.tup (ks.map kV))
theorem Qeg{α β:Type}{B:List α}{r:α}(g:α->List β)(h:B[i]?=some r):(B.take (i+1)).flatMap g=(B.take i).flatMap g++g r:=by
 rw[Jn h,yZb]
 congr 1
 show g r++[]=_
 rw[xV]
theorem Zq(h:B.flatMap (gW pl)=[])(c:BR.work w∈B):hasK pl w=true:=by
 have b:=List.flatMap_eq_nil_iff.mp h _ c
 have a:(if hasK pl w=true then[]else[[(inr ("work":Str):Key),inr w]])=[]:=b
 by_cases e:hasK pl w=true
 .exact e
 .rw[Y20 e]at a;cases a
theorem gS_no(h:r.word≠"store"):gS n B pl r=[]:=by
 cases r with
 |store b m f=>exact Y21 rfl h
 |_=>rfl
theorem gA_no(h:r.word≠"after"):gA B pl r=[]:=by
 cases r with
 |after w x g=>exact Y21 rfl h
 |_=>rfl
theorem Qlx(h:r.word="bench"):∃b c,r=.bench b c:=by
 have a:r.kind=1:=(Xx r (k:=1) Dc).mp h
 cases r with
 |bench b c=>exists b,c,rfl
 |use k _ _ _ _=>exact Y21 (show 6+k.val=1 from a) Om
 |_=>exact nomatch a
theorem Qly(h:r.word="store"):∃b m f,r=.store b m f:=by
 have a:r.kind=3:=(Xx r (k:=3) Dc).mp h
 cases r with
 |store b m f=>exists b,m,f,rfl
 |use k _ _ _ _=>exact Y21 (show 6+k.val=3 from a) Om
 |_=>exact nomatch a
inductive Qte(K:Fg)(vs:List V)(H:Hp)(Q:VK)(E:XK):Prop|mk(d P:Addr)(n:Int)(us:List V)(B:List BR)(pl:Z7)(_:vs=[.ref d,.ref P])(_:H d=some (.lst us))(_:RowsB H us B)(_:BookOk n B)(_:PlanAt K H P pl)(_:PlanFor n B pl)(_:∀(v:V) (H':Hp),Same H H'->DueIs H' (dueF n B pl) v->Q v H'):Qte K vs H Q E
abbrev Qtf:Stmt:=top 12
abbrev Wk:Stmt:=inClass (top 14) 0
abbrev Qgb:Stmt:=inClass (top 14) 4
def Qeh(fN:Z9):Prop:=∀r:BR,∃t,fN r.word=some (.int ((r.names.length:Nat):Int) t)
theorem Qxf(r:BR):r.key.length=1+r.names.length:=by
 unfold BR.key
 rw[yQ,jX]
 lia
theorem Qxg(r:BR):cutV (r.cells.map kV) none (some (1+((r.names.length:Nat):Int)))=r.key.map kV:=by
 unfold cutV
 have b:(1:Int)+((r.names.length:Nat):Int)=((r.key.length:Nat):Int):=by rw[Qxf];lia
 have a:r.key.length<=r.cells.length:=by unfold BR.cells;rw[jZ];lia
 rw[HT.sIx_none,jJb,kYe,b,HT.sIx_nat,jX,jQb a,<-kXe]
 unfold BR.cells
 rw[kJc]
 rfl
theorem Qtg(r:BR):cutV (r.cells.map kV) (some (((r.key.map kV).length:Nat):Int)) none=r.nums.map V.int:=by
 unfold cutV
 have a:r.key.length<=r.cells.length:=by unfold BR.cells;rw[jZ];lia
 rw[HT.sIx_none,HT.sIx_nat,jX,jX,jQb a,<-List.map_drop]
 unfold BR.cells
 rw[List.drop_left',jZ,yQd,kQa,zW (by rw[jX,jX];exact jJ _)]
 .rfl
 .rfl
inductive Qve(vs:List V)(H:Hp)(Q:VK)(E:XK):Prop|mk(l:Addr)(r:BR)(_:vs=[.ref l])(_:H l=some (.lst (r.cells.map kV)))(_:∀(t:Addr) (H':Hp),Same H H'->H t=none->H' t=some (.tup (r.key.map kV))->Q (.ref t) H'):Qve vs H Q E
structure FcTxt(K:Fg)(mg:Z9)(C:Addr):Prop where
 cl:Cls K C
 nD:NoAttr K C "days"
 nW:NoAttr K C "works"
 nB:NoAttr K C "benches"
 nH:NoAttr K C "shuts"
 nS:NoAttr K C "stores"
 nA:NoAttr K C "afters"
 nI:NoAttr K C "said"
 mgC:mg "Facts"=some (.ref C)
def FrP(p:Addr)(H H':Hp):Prop:=∀b o,H b=some o->b≠p->H' b=some o
theorem RowsB.frP{fs:List (Str×V)}(h:RowsB H vs B)(f:FrP p H H')(a:H p=some (.ins C dx fs)):RowsB H' vs B:=h.imp fun l r _ z=>f _ _ z (Ym z a (by intro e;cases e))
theorem Qth{P t C' dx':Addr}{fs fs':List (Str×V)}(a:H P=some (.ins C dx fs))(h:SqT K H t xs):SqT K (upd H P (.ins C' dx' fs')) t xs:=by
 rcases h with(h | ⟨p,h⟩) | h
 .exact .inl (.inl (by rw[Qj (Ym h a (by intro z;cases z))];exact h))
 .exact .inl (.inr ⟨p,by rw[Qj (Ym h a (by intro z;cases z))];exact h⟩)
 .exact .inr h
def SaidOk(K:Fg)(H:Hp)(kvs:List (List Key×V))(B:List BR):Prop :=
 (∀r∈B,r.word≠"shut"->∃t,valV kvs r.key=some (.ref t)/\SqT K H t (r.nums.map V.int))/\∀k:List Key,(∀r∈B,r.key≠k)->valV kvs k=none
def Qpc(K:Fg)(H:Hp):List (List Key×V)->List BR->Prop:=Paired fun p r=>p.1=r.key/\∃t,p.2=.ref t/\SqT K H t (r.nums.map V.int)
theorem Qgc{ps:List (List Key×V)}{k:List Key}(h:∀p∈ps,p.1≠k):∀m,m<=ps.length->valV (Xo (ps.take m)) k=none:=by
 intro m
 induction m with
 |zero=>intro _;rfl
 |succ m ih=>
  intro a
  have e:ps[m]?=some ps[m]:=gE a
  rw[Jd e,Kl,Y20 (fun z=>h _ (kY e) z.symm)]
  exact ih Om
theorem Qgd{ps:List (List Key×V)}{k:List Key}{v:V}(d:ps[i]?=some (k,v))(a:∀j p,ps[j]?=some p->p.1=k->j=i):∀m,i<m->m<=ps.length->valV (Xo (ps.take m)) k=some v:=by
 intro m
 induction m with
 |zero=>intro h;exact Y21 h (kQd _)
 |succ m ih=>
  intro g f
  have e:ps[m]?=some ps[m]:=gE f
  rw[Jd e,Kl]
  by_cases c:m=i
  .subst c
   have b:ps[m]=(k,v):=Y5 (e.symm.trans d)
   rw[b,Y22 rfl]
  .rw[Y20 (fun z=>c (a m _ e z.symm))]
   exact ih Om Om
theorem Qxh{ps:List (List Key×V)}(h:Qpc K H ps B)(w:WB n B):SaidOk K H (Xo ps) B:=by
 have F:=Paired.length h
 exists fun r E f=>?_,fun k a=>?_
 .obtain⟨i,d⟩:=jQa.mp E
  obtain⟨⟨k,v⟩,ex,C,t,A,x⟩:=Vf h d
  have u:k=r.key:=C
  have g:v=.ref t:=A
  subst u g
  have y:=(jK.mp ex).1
  have b:=Qgd ex (fun j p D l=>?_) ps.length y (jJ _)
  .rw[yW]at b
   exists t,b,x
  .obtain⟨q,e,o,_⟩:=Xh h D
   have a:r.key=q.key:=l.symm.trans o
   rcases kYf i j with c | c | c
   .rcases Qfz w.nd c d e with z | z | z
    .exact Y21 z f
    .have s:((inr r.word:Key)::r.names.map inr)=inr q.word::q.names.map inr:=a
     injection s with m
     exact Y21 ((Y37 m).trans z) f
    .exact Y21 a z
   .exact c.symm
   .rcases Qfz w.nd c e d with z | z | z
    .have s:((inr r.word:Key)::r.names.map inr)=inr q.word::q.names.map inr:=a
     injection s with m
     exact Y21 ((Y37 m).trans z) f
    .exact Y21 z f
    .exact Y21 a.symm z
 .have b:=Qgc (ps:=ps) (k:=k) (fun p l=>?_) ps.length (jJ _)
  .rw[yW]at b
   exact b
  .obtain⟨i,d⟩:=jQa.mp l
   obtain⟨q,e,o,_⟩:=Xh h d
   rw[o]
   exact a q (kY e)
def wayK(k:List Key):Bool:=decide (k.head?=some (inr ("way":Str)))
open Classical in
theorem Qti{k:List Key}{v:V}:(putK kvs k v).map (·.1)=if k∈kvs.map (·.1)then kvs.map (·.1)else kvs.map (·.1)++[k]:=by
 unfold putK
 by_cases h:(kvs.any fun b=>decide (b.1=k))=true
 .rw[Y22 h,Y22 (by
   obtain⟨x,a,e⟩:=jXe.mp h
   exact zK.mpr ⟨x,a,kZ e⟩),kQa]
  refine kJe fun x _=>?_
  show(if x.1=k then(x.1,v)else x).1=x.1
  split<;>rfl
 .rw[Y20 h,Y20 (fun z=>h (by
   obtain⟨x,a,e⟩:=zK.mp z
   exact jXe.mpr ⟨x,a,yX e⟩)),yK]
  rfl
theorem Qcl{ps:List (List Key×V)}{p:List Key->Bool}(n:∀(i j:Nat) a b,i<j->ps[i]?=some a->ps[j]?=some b->a.1=b.1->p b.1=false):∀m,m<=ps.length->((Xo (ps.take m)).map (·.1)).filter p=((ps.take m).map (·.1)).filter p/\∀x∈(Xo (ps.take m)).map (·.1),x∈(ps.take m).map (·.1):=by
 intro m
 induction m with
 |zero=>intro _;exists rfl,fun x d=>d
 |succ m ih=>
  intro r
  have e:ps[m]?=some ps[m]:=gE r
  obtain⟨h,g⟩:=ih Om
  rw[Jd e,Qti,Jn e,yK,jKa]
  by_cases c:(ps[m]).1∈(Xo (ps.take m)).map (·.1)
  .rw[Y22 c]
   obtain⟨a,k,q⟩:=zK.mp (g _ c)
   obtain⟨i,f⟩:=jQa.mp k
   have o:=(jK.mp f).1
   rw[zZ]at o
   rw[List.getElem?_take,Y22 Om]at f
   have l:=n i m a _ Om f e q
   exists ?_,fun x d=>zY _ (g x d)
   rw[h,show([ps[m]].map (·.1)).filter p=[]by
    show List.filter p [(ps[m]).1]=[]
    rw[kQf,l];rfl,xV]
  .rw[Y20 c,jKa,h]
   exists rfl,fun x d=>?_
   rcases kW.mp d with z | z
   .exact zY _ (g x z)
   .exact yV _ z
theorem Qlz{ps:List (List Key×V)}(h:Qpc K H ps B)(k:WB n B):((Xo ps).map (·.1)).filter wayK=(B.map BR.key).filter wayK:=by
 have m:ps.map (·.1)=B.map BR.key:=by
  clear k
  induction h with
  |nil=>rfl
  |cons z _ ih=>rw[zX,zX,z.1,ih]
 have:=(Qcl (ps:=ps) (p:=wayK) (fun i j a b d s w e=>?_) ps.length (jJ _)).1
 .rw[yW,m]at this
  exact this
 .obtain⟨r,o,g,_⟩:=Xh h s
  obtain⟨q,l,f,_⟩:=Xh h w
  have c:∀t:BR,t.word="shut"->wayK t.key=false:=fun t u=>by
   refine xK fun z=>?_
   have v:some (inr t.word:Key)=some (inr ("way":Str)):=z
   have:=Y37 (Y5 v)
   rw[u]at this
   exact Y21 this Dk
  rw[f]
  rcases Qfz k.nd d o l with z | z | z
  .rw[<-f,<-e,g];exact c r z
  .exact c q z
  .exact Y21 (g.symm.trans (e.trans f)) z
def Jj:BR->Option Str
 |.bench b _=>some b
 |_=>none
def bns(B:List BR):List Str:=B.filterMap Jj
theorem Wl(h:r.word≠"bench"):Jj r=none:=by
 cases r with
 |bench b c=>exact Y21 rfl h
 |_=>rfl
def selW(w:Str)(r:BR):Bool:=decide (r.word=w)
def TupsOf(K:Fg)(H:Hp):List V->List BR->Prop:=Paired fun v r=>∃t,v=.ref t/\SqT K H t ((r.cells.drop 1).map kV)
theorem Qxi(r:BR):cutV (r.cells.map kV) (some 1) none=(r.cells.drop 1).map kV:=by
 unfold cutV
 have a:1<=r.cells.length:=by unfold BR.cells BR.key;rw[jZ,yQ];lia
 rw[HT.sIx_none,show(1:Int)=((1:Nat):Int)from rfl,HT.sIx_nat,jX,jQb a,<-List.map_drop,zW (by rw[jX,jXb];exact jJ _)]
theorem FrP.trans{H2:Hp}(a:FrP p H H1)(b:FrP p H1 H2):FrP p H H2:=fun c o e d=>b c o (a c o e d) d
theorem Qxj{t:Addr}{fs:List (Str×V)}(h:SqT K H t xs)(f:FrP p H H')(a:H p=some (.ins C dx fs)):SqT K H' t xs:=by
 rcases h with(h | ⟨q,h⟩) | h
 .exact .inl (.inl (f _ _ h (Ym h a (by intro z;cases z))))
 .exact .inl (.inr ⟨q,f _ _ h (Ym h a (by intro z;cases z))⟩)
 .exact .inr h
theorem TupsOf.frP{fs:List (Str×V)}(h:TupsOf K H ys B)(f:FrP p H H')(a:H p=some (.ins C dx fs)):TupsOf K H' ys B:=Paired.mapP h fun _ _ ⟨t,e,z⟩=>⟨t,e,Qxj z f a⟩
theorem TupsOf.same(h:TupsOf K H ys B)(s:Same H H'):TupsOf K H' ys B:=Paired.mapP h fun _ _ ⟨t,e,z⟩=>⟨t,e,s.tup z⟩
theorem SaidOk.same(h:SaidOk K H kvs B)(s:Same H H'):SaidOk K H' kvs B:=⟨fun r c d=>(let ⟨t,a,b⟩:=h.1 r c d;⟨t,a,s.tup b⟩),h.2⟩
abbrev fcFs(n:Int)(lw lb lh ls la ds:Addr):List (Str×V):=[("days",.int n),("works",.ref lw),("benches",.ref lb),("shuts",.ref lh),("stores",.ref ls),("afters",.ref la),("said",.ref ds)]
structure FcF(K:Fg)(C:Addr)(H:Hp)(p:Addr)(n:Int)(B:List BR)(dx lw lb lh ls la ds:Addr)(fs:List (Str×V))(kvs:List (List Key×V))(yh ys ya:List V):Prop where
 hp:H p=some (.ins C dx fs)
 fe:fs=fcFs n lw lb lh ls la ds
 hW:H lw=some (.lst ((wks B).map V.str))
 hB:H lb=some (.lst ((bns B).map V.str))
 hH:H lh=some (.lst yh)
 hS:H ls=some (.lst ys)
 hA:H la=some (.lst ya)
 tH:TupsOf K H yh (B.filter (selW "shut"))
 tS:TupsOf K H ys (B.filter (selW "store"))
 tA:TupsOf K H ya (B.filter (selW "after"))
 hI:H ds=some (.dT kvs)
 sd:SaidOk K H kvs B
 wo:(kvs.map (·.1)).filter wayK=(B.map BR.key).filter wayK
 kl:kvs.length<=400
inductive FcAt(K:Fg)(C:Addr)(H:Hp)(p:Addr)(n:Int)(B:List BR):Prop|mk(dx lw lb lh ls la ds:Addr)(fs:List (Str×V))(kvs:List (List Key×V))(yh ys ya:List V)(_:FcF K C H p n B dx lw lb lh ls la ds fs kvs yh ys ya):FcAt K C H p n B
theorem FcAt.same(h:FcAt K C H p n B)(s:Same H H'):FcAt K C H' p n B:=by
 obtain⟨i,c,b,e,g,d,k,fs,a,f,l,j,h⟩:=h
 exists i,c,b,e,g,d,k,fs,a,f,l,j,{ h with hp:=s _ _ h.hp,hW:=s _ _ h.hW,hB:=s _ _ h.hB,hH:=s _ _ h.hH,hS:=s _ _ h.hS,hA:=s _ _ h.hA,tH:=h.tH.same s,tS:=h.tS.same s,tA:=h.tA.same s,hI:=s _ _ h.hI,sd:=h.sd.same s }
section
variable{lw lb lh ls la ds:Addr}{fs:List (Str×V)}{yh ya:List V}(h:FcF K C H p n B dx lw lb lh ls la ds fs kvs yh ys ya)
include h
theorem FcF.fD:fs.lookup ("days":Str)=some (.int n):=h.fe▸rfl
theorem FcF.fW:fs.lookup ("works":Str)=some (.ref lw):=h.fe▸rfl
theorem FcF.fB:fs.lookup ("benches":Str)=some (.ref lb):=h.fe▸rfl
theorem FcF.fH:fs.lookup ("shuts":Str)=some (.ref lh):=h.fe▸rfl
theorem FcF.fS:fs.lookup ("stores":Str)=some (.ref ls):=h.fe▸rfl
theorem FcF.fA:fs.lookup ("afters":Str)=some (.ref la):=h.fe▸rfl
theorem FcF.fI:fs.lookup ("said":Str)=some (.ref ds):=h.fe▸rfl
theorem FcF.nE:fs.lookup ("end_of":Str)=none:=h.fe▸rfl
theorem FcF.nY:fs.lookup ("is_way":Str)=none:=h.fe▸rfl
theorem FcF.nL:fs.lookup ("last_begin":Str)=none:=h.fe▸rfl
theorem FcF.nM:fs.lookup ("many":Str)=none:=h.fe▸rfl
theorem FcF.nU:fs.lookup ("used_by":Str)=none:=h.fe▸rfl
theorem FcF.nG:fs.lookup ("gain_by":Str)=none:=h.fe▸rfl
theorem FcF.nR:fs.lookup ("room_of":Str)=none:=h.fe▸rfl
theorem FcF.nC:fs.lookup ("all_choices":Str)=none:=h.fe▸rfl
end
theorem FrP.lst{p b C dx:Addr}{H H':Hp}{fs:List (Str×V)}{ys:List V}(f:FrP p H H')(a:H p=some (.ins C dx fs))(h:H b=some (.lst ys)):H' b=some (.lst ys):=f _ _ h (Ym h a (by intro z;cases z))
theorem FrP.stage(h:Same H H1)(a:List (Str×V))(g:FrP p H0 H):FrP p H1 (upd H1 p (.ins C dx a))/\FrP p H (upd H1 p (.ins C dx a))/\FrP p H0 (upd H1 p (.ins C dx a))/\upd H1 p (.ins C dx a) p=some (.ins C dx a):=by
 have f:FrP p H1 (upd H1 p (.ins C dx a)):=fun b o e c=>by rw[Qj c];exact e
 have d:FrP p H (upd H1 p (.ins C dx a)):=fun b o e c=>f b o (h _ _ e) c
 exists f,d,g.trans d,Qc
theorem Wm{f:Str}{v:V}{fs:List (Str×V)}{k:Nat}(h:fs.length<=k):(putF f v fs).length<=k+1:=wZ (Kx f v fs) (wW h)
def TpV(K:Fg)(H:Hp)(v:V)(r:BR):Prop:=∃t,v=.ref t/\SqT K H t ((r.cells.drop 1).map kV)
def SdV(K:Fg)(H:Hp)(v:V)(r:BR):Prop:=∃t b t6,v=.ref t/\SqT K H t [.ref b,.ref t6]/\H b=some (.tup (r.key.map kV))/\SqT K H t6 (r.nums.map V.int)
theorem Qcz{K:Fg}{H:Hp}:∀{ys:List V} {B:List BR},Paired (SdV K H) ys B->∃ps,Qog K H ys ps/\Qpc K H ps B
 |_,_,.nil=>⟨[],.nil,.nil⟩
 |_,_,.cons ⟨t,b,t6,e,h1,h2,h3⟩ r=>let ⟨ps,a,c⟩:=Qcz r;⟨(_,.ref t6)::ps,.cons ⟨t,b,e,h1,h2⟩ a,.cons ⟨rfl,t6,rfl,h3⟩ c⟩
inductive Qia(K:Fg)(C:Addr)(vs:List V)(H:Hp)(Q:VK)(E:XK):Prop|mk(p d dx:Addr)(n:Int)(us:List V)(B:List BR)(_:vs=[.ref p,.ref d])(_:H p=some (.ins C dx []))(_:H d=some (.lst us))(_:RowsB H us B)(_:BookOk n B)(_:∀H',FcAt K C H' p n B->FrP p H H'->Q .non H'):Qia K C vs H Q E
section
variable{w:World}
theorem scSaid:FnScope ["row"] ["row"] (Qh Qtf):=Sc
theorem okSaid(F:Fn K mg "said_by" Qtf)(M:Mg mg)(d:Tab w K mg "NAMES" aN fN)(n:Qeh fN):Cal P w K mg base 1 "said_by" ["row"] Qve:=by
 refine Xv F scSaid (a:=fun f m A b s H j Q E x h=>?_)
 obtain⟨l,r,rfl,i,q⟩:=h
 exists _,(Qi (Qx (Yg Vp rfl M.tuple_ Kj (Qa (Xc Jh (pv 0) Xn (Xe (Qk Qy Qe (Qs (ix_tab d) (Jf (v:=.ref aN) rfl d.bound rfl) (Qs Qn (pv 0) Qe))))) Qf)))),?_
 obtain⟨t,k⟩:=n r
 exists _,rfl,_,rfl,l,_,_,_,rfl,rfl,Qb i,Yl r,_,_,.int ((r.names.length:Nat):Int),rfl,rfl,k,⟨_,rfl⟩,_,_,rfl,rfl,_,rfl,l,_,rfl,Qb i,fun p c=>?_
 rw[Qxg]
 have g:=Qd c (.lst (r.key.map kV))
 exists p,_,rfl,.inl ⟨Qb Qc,fun e a=>?_⟩
 refine q e _ (g.trans (Qd a _)) ?_ Qc
 cases u:H e with
 |none=>rfl
 |some o=>rw[g _ _ u]at a;cases a
theorem scFcI:FnScope ["self","book"] ["self","book"] (Qh Wk):=Sc
theorem okFcI(F:Fun K "__init__" "Facts.__init__" Wk f fd)(M:Mg mg)(T:FcTxt K mg C)(g:Cal P w K mg base 1 "said_by" ["row"] Qve):FnOk P w K mg base CX0 2 f fd ["self","book"] (Qia K C):=by
 refine F.ok scFcI (a:=fun aH A ar s H vs Q E c h=>?_)
 .obtain⟨p,d,dx,n,us,B,rfl,hp,hd,hB,bk,q⟩:=h
  exists"z"
  have lu:=hB.length
  have bl:=bk.wb.len
  have aq:=Z6 6 c.un
  refine⟨_,(Qg (Qar (pv 0) (Qs Qn (Qs Qn (pv 1) Qe) Qe) rfl)
  (Qg (Qar (pv 0) (Yh ["row"] [none] rfl (Xd (pv 1)) (fun _ _ _=>(Z3 0 Z2)) (fun _ _ _=>(Zh (Ql Ye (Qs (Xw (K:=K) rfl) (pv 0) Qe) Qq (Qp _)))) (fun _ _ _=>(Qs (Xw (K:=K) rfl) (pv 0) Qe))) rfl)
  (Qg (Qar (pv 0) (Yh ["row"] [none] rfl (Xd (pv 1)) (fun _ _ _=>(Z3 0 Z2)) (fun _ _ _=>(Zh (Ql Ye (Qs (Xw (K:=K) rfl) (pv 0) Qe) Qq (Qp _)))) (fun _ _ _=>(Qs (Xw (K:=K) rfl) (pv 0) Qe))) rfl)
  (Qg (Qar (pv 0) (Yh ["row"] [none] rfl (Xd (pv 1)) (fun _ _ _=>(Z3 0 Z2)) (fun _ _ _=>(Zh (Ql Ye (Qs (Xw (K:=K) rfl) (pv 0) Qe) Qq (Qp _)))) (fun _ _ _=>(Yg (Zs (K:=K) rfl) rfl M.tuple_ Kj (Qa (Xc (Jq (K:=K) rfl) (pv 0) (Xe Qe) Xn) Qf)))) rfl)
  (Qg (Qar (pv 0) (Yh ["row"] [none] rfl (Xd (pv 1)) (fun _ _ _=>(Z3 0 Z2)) (fun _ _ _=>(Zh (Ql Ye (Qs (Xw (K:=K) rfl) (pv 0) Qe) Qq (Qp _)))) (fun _ _ _=>(Yg (Zs (K:=K) rfl) rfl M.tuple_ Kj (Qa (Xc (Jq (K:=K) rfl) (pv 0) (Xe Qe) Xn) Qf)))) rfl)
  (Qg (Qar (pv 0) (Yh ["row"] [none] rfl (Xd (pv 1)) (fun _ _ _=>(Z3 0 Z2)) (fun _ _ _=>(Zh (Ql Ye (Qs (Xw (K:=K) rfl) (pv 0) Qe) Qq (Qp _)))) (fun _ _ _=>(Yg (Zs (K:=K) rfl) rfl M.tuple_ Kj (Qa (Xc (Jq (K:=K) rfl) (pv 0) (Xe Qe) Xn) Qf)))) rfl)
  (Qi (Qar (pv 0) (Yg (Qdy (n:=6) Dc aq rfl) rfl M.dict_ Qaz (Qa (Yh ["row"] [none] rfl (Xd (pv 1)) (fun _ _ _=>(Z3 0 Z2)) (fun _ _ _=>Zg) (fun _ _ _=>(Yf (Qa (Xk g (c.mono Dc) (Qa (pv 0) Qf)) (Qa (Yg (Zs (K:=K) rfl) rfl M.tuple_ Kj (Qa (Xc (Jq (K:=K) rfl) (pv 0) (Xe (Qr (Qdv (K:=K) rfl) rfl M.len Xr (Qa (Xk g (c.mono Dc) (Qa (pv 0) Qf)) Qf))) Xn) Qf)) Qf))))) Qf)) rfl)))))))),?_⟩
  obtain⟨u0,ai⟩:∃u0,us[0]?=some u0:=⟨_,gE (by
   rw[lu]
   exact(jK.mp bk.hd).1)⟩
  obtain⟨r0,ld,al,rfl,aA⟩:=hB.get ai
  rw[bk.hd]at al
  cases al
  have a0:atI us 0=some (.ref ld):=Jy (k:=0) ai
  exists _,rfl,d,_,_,_,rfl,rfl,Qb hd,a0,ld,_,_,_,rfl,rfl,Qb aA,(show atI ((BR.days n).cells.map kV) 1=some (.int n)from rfl),_,rfl,p,C,dx,[],rfl,hp,T.cl,T.nD,(by show 0<1000;decide),?_
  obtain⟨ac,e1⟩:∃fs,fs=putF "days" (.int n) []:=⟨_,rfl⟩
  have l1:ac.length<=1:=e1▸Wm (jJ 0)
  rw[<-e1]
  obtain⟨_,_,g1,i⟩:=FrP.stage (C:=C) (dx:=dx) (Same.refl H) ac (fun b o e _=>e:FrP p H H)
  generalize upd H p (.ins C dx ac)=H1 at g1 i⊢
  have an:=g1.lst hp hd
  have ax:=hB.frP g1 hp
  exists _,rfl,d,rfl,⟨_,Qb an⟩,fun lw I=>Qab (f:=Zu) (fun _ v x=>v=.str x) (fun _ e=>e) (fun _ e=>e) (cs:=[]) rfl an ax Om I (fun r l H1 hm s1 c P1 P2 N U=>?_) (fun ys X a R j=>?_)
  .refine⟨_,rfl,l,_,_,_,rfl,rfl,Qb c,Yl r,rfl,_,rfl,ite2 (fun y=>?_) (fun y=>U (Vy (fun e=>y (by rw[e];exact yesS _))) _ (Same.refl _))⟩
   obtain⟨w,rfl⟩:=Kc (eqS y)
   exists _,rfl,l,_,_,_,rfl,rfl,Qb c,rfl,N _ _ _ rfl (Same.refl _) rfl
  exists _,rfl,p,C,dx,_,rfl,a _ _ i,T.cl,T.nW,zJ l1 Dc,?_
  obtain⟨Y,e2⟩:∃fs,fs=putF "works" (.ref lw) ac:=⟨_,rfl⟩
  have l2:Y.length<=2:=e2▸Wm l1
  rw[<-e2]
  obtain⟨f2,s2,g2,aa⟩:=FrP.stage (C:=C) (dx:=dx) a Y g1
  generalize upd X p (.ins C dx Y)=H2 at f2 s2 g2 aa⊢
  have c2:=f2.lst (a _ _ i) R
  have ap:=g2.lst hp hd
  have aw:=hB.frP g2 hp
  have i2:=Zb j
  clear j a
  exists _,rfl,d,rfl,⟨_,Qb ap⟩,fun D3 I=>Qab (f:=Jj) (fun _ v x=>v=.str x) (fun _ e=>e) (fun _ e=>e) (cs:=[]) rfl ap aw Om I (fun r l H1 hm s1 c P1 P2 N U=>?_) (fun ys X a R j=>?_)
  .refine⟨_,rfl,l,_,_,_,rfl,rfl,Qb c,Yl r,rfl,_,rfl,ite2 (fun y=>?_) (fun y=>U (Wl (fun e=>y (by rw[e];exact yesS _))) _ (Same.refl _))⟩
   obtain⟨bb,cc,rfl⟩:=Qlx (eqS y)
   exists _,rfl,l,_,_,_,rfl,rfl,Qb c,rfl,N _ _ _ rfl (Same.refl _) rfl
  exists _,rfl,p,C,dx,_,rfl,a _ _ aa,T.cl,T.nB,zJ l2 Dc,?_
  obtain⟨ab,e3⟩:∃fs,fs=putF "benches" (.ref D3) Y:=⟨_,rfl⟩
  have l3:ab.length<=3:=e3▸Wm l2
  rw[<-e3]
  obtain⟨f3,s3,g3,L⟩:=FrP.stage (C:=C) (dx:=dx) a ab g2
  generalize upd X p (.ins C dx ab)=H3 at f3 s3 g3 L⊢
  have c3:=f3.lst (a _ _ aa) R
  have ah:=g3.lst hp hd
  have aB:=hB.frP g3 hp
  have i3:=Zb j
  clear j a
  exists _,rfl,d,rfl,⟨_,Qb ah⟩,fun D4 I=>Qab (f:=Option.guard (selW "shut")) (TpV K) (fun s ⟨t,e,z⟩=>⟨t,e,s.tup z⟩) (fun hg ⟨t,e,z⟩=>⟨t,e,Zn hg z⟩) (cs:=[]) rfl ah aB Om I (fun r l H1 hm s1 c P1 P2 N U=>?_) (fun y4 X a R j=>?_)
  .refine⟨_,rfl,l,_,_,_,rfl,rfl,Qb c,Yl r,rfl,_,rfl,ite2 (fun y=>?_) (fun y=>U (Y20 fun e=>y (by rw[kZ e];exact yesS _)) _ (Same.refl _))⟩
   exists _,rfl,_,rfl,l,_,rfl,Qb c,fun p1 i=>⟨p1,_,rfl,.inl ⟨Qb Qc,fun t1 O=>N _ _ r (Y22 (yX (eqS y))) ((Qd i _).trans (Qd O _)) ⟨t1,rfl,Xb (by rw[Qc,Qxi])⟩⟩⟩
  exists _,rfl,p,C,dx,_,rfl,a _ _ L,T.cl,T.nH,zJ l3 Dc,?_
  obtain⟨W,e4⟩:∃fs,fs=putF "shuts" (.ref D4) ab:=⟨_,rfl⟩
  have l4:W.length<=4:=e4▸Wm l3
  rw[<-e4]
  obtain⟨f4,s4,g4,G⟩:=FrP.stage (C:=C) (dx:=dx) a W g3
  generalize upd X p (.ins C dx W)=H4 at f4 s4 g4 G⊢
  have c4:=f4.lst (a _ _ L) R
  have t4:TupsOf K H4 y4 (B.filter (selW "shut")):=TupsOf.frP (by rw[<-kKf];exact j) f4 (a _ _ L)
  have aj:=g4.lst hp hd
  have av:=hB.frP g4 hp
  clear j a
  exists _,rfl,d,rfl,⟨_,Qb aj⟩,fun D5 I=>Qab (f:=Option.guard (selW "store")) (TpV K) (fun s ⟨t,e,z⟩=>⟨t,e,s.tup z⟩) (fun hg ⟨t,e,z⟩=>⟨t,e,Zn hg z⟩) (cs:=[]) rfl aj av Om I (fun r l H1 hm s1 c P1 P2 N U=>?_) (fun y5 X a R j=>?_)
  .refine⟨_,rfl,l,_,_,_,rfl,rfl,Qb c,Yl r,rfl,_,rfl,ite2 (fun y=>?_) (fun y=>U (Y20 fun e=>y (by rw[kZ e];exact yesS _)) _ (Same.refl _))⟩
   exists _,rfl,_,rfl,l,_,rfl,Qb c,fun p1 i=>⟨p1,_,rfl,.inl ⟨Qb Qc,fun t1 O=>N _ _ r (Y22 (yX (eqS y))) ((Qd i _).trans (Qd O _)) ⟨t1,rfl,Xb (by rw[Qc,Qxi])⟩⟩⟩
  exists _,rfl,p,C,dx,_,rfl,a _ _ G,T.cl,T.nS,zJ l4 Dc,?_
  obtain⟨ad,e5⟩:∃fs,fs=putF "stores" (.ref D5) W:=⟨_,rfl⟩
  have l5:ad.length<=5:=e5▸Wm l4
  rw[<-e5]
  obtain⟨f5,s5,g5,m⟩:=FrP.stage (C:=C) (dx:=dx) a ad g4
  generalize upd X p (.ins C dx ad)=H5 at f5 s5 g5 m⊢
  have c5:=f5.lst (a _ _ G) R
  have t5:TupsOf K H5 y5 (B.filter (selW "store")):=TupsOf.frP (by rw[<-kKf];exact j) f5 (a _ _ G)
  have ao:=g5.lst hp hd
  have au:=hB.frP g5 hp
  clear j a
  exists _,rfl,d,rfl,⟨_,Qb ao⟩,fun D6 I=>Qab (f:=Option.guard (selW "after")) (TpV K) (fun s ⟨t,e,z⟩=>⟨t,e,s.tup z⟩) (fun hg ⟨t,e,z⟩=>⟨t,e,Zn hg z⟩) (cs:=[]) rfl ao au Om I (fun r l H1 hm s1 c P1 P2 N U=>?_) (fun y6 X a R j=>?_)
  .refine⟨_,rfl,l,_,_,_,rfl,rfl,Qb c,Yl r,rfl,_,rfl,ite2 (fun y=>?_) (fun y=>U (Y20 fun e=>y (by rw[kZ e];exact yesS _)) _ (Same.refl _))⟩
   exists _,rfl,_,rfl,l,_,rfl,Qb c,fun p1 i=>⟨p1,_,rfl,.inl ⟨Qb Qc,fun t1 O=>N _ _ r (Y22 (yX (eqS y))) ((Qd i _).trans (Qd O _)) ⟨t1,rfl,Xb (by rw[Qc,Qxi])⟩⟩⟩
  exists _,rfl,p,C,dx,_,rfl,a _ _ m,T.cl,T.nA,zJ l5 Dc,?_
  obtain⟨J,e6⟩:∃fs,fs=putF "afters" (.ref D6) ad:=⟨_,rfl⟩
  have l6:J.length<=6:=e6▸Wm l5
  rw[<-e6]
  obtain⟨f6,s6,g6,Z⟩:=FrP.stage (C:=C) (dx:=dx) a J g5
  generalize upd X p (.ins C dx J)=H6 at f6 s6 g6 Z⊢
  have c6:=f6.lst (a _ _ m) R
  have t6:TupsOf K H6 y6 (B.filter (selW "after")):=TupsOf.frP (by rw[<-kKf];exact j) f6 (a _ _ m)
  have am:=g6.lst hp hd
  have ay:=hB.frP g6 hp
  clear j a
  exists _,rfl,d,rfl,⟨_,Qb am⟩,fun D I=>Qab (f:=some) (SdV K) (fun s ⟨t,b,u,e,h1,h2,h3⟩=>⟨t,b,u,e,s.tup h1,s _ _ h2,s.tup h3⟩) (fun hg ⟨t,b,u,e,h1,h2,h3⟩=>⟨t,b,u,e,Zn hg h1,by rw[Qj (Ym h2 hg (by intro z;cases z))];exact h2,Zn hg h3⟩) (cs:=[]) rfl am ay Om I (fun r l H1 hm s1 c P1 P2 N U=>?_) (fun ys X a R j=>?_)
  .refine⟨_,rfl,l,r,rfl,c,fun b1 H3 s3 aI aG=>?_⟩
   exists _,rfl,_,rfl,l,r,rfl,s3 _ _ c,fun b2 H4 s4 aL aE=>?_
   exists b2,_,rfl,.inr (Xb aE),_,rfl,l,_,rfl,Qb (s4 _ _ (s3 _ _ c)),fun p5 m=>?_
   rw[Qtg]
   exists p5,_,rfl,.inl ⟨Qb Qc,fun t6 az=>⟨Z1 2,fun t7 aF=>?_⟩⟩
   have s7:=Qd aF (.tup [.ref b1,.ref t6])
   have ak:=(s4.trans (Qd m (.lst (r.nums.map V.int)))).trans (Qd az (.tup (r.nums.map V.int)))
   exact N _ _ r rfl (s3.trans (ak.trans s7)) ⟨t7,b1,t6,rfl,Xb Qc,(ak.trans s7) _ _ aG,s7.tup (Xb Qc)⟩
  rw[List.filterMap_some]at j
  have ly:=Paired.length j
  obtain⟨ps,hq,hs⟩:=Qcz j
  have aJ:=Paired.length hs
  exists D,ys,ps,rfl,Qb R,hq,Om,fun ds aD=>?_
  have s8:=Qd aD (.dT (Xo ps))
  have ae:=a.trans s8
  have S:upd X ds (.dT (Xo ps)) ds=some (.dT (Xo ps)):=Qc
  have ag:SaidOk K (upd X ds (.dT (Xo ps))) (Xo ps) B:=Qxh (Paired.mapP hs fun _ _ ⟨e,t,e2,z⟩=>⟨e,t,e2,s8.tup z⟩) bk.wb
  generalize upd X ds (.dT (Xo ps))=H8 at s8 ae S ag⊢
  have af:=ae _ _ Z
  exists _,rfl,p,C,dx,_,rfl,af,T.cl,T.nI,zJ l6 Dc,?_
  obtain⟨f7,s7,g7,aK⟩:=FrP.stage (C:=C) (dx:=dx) ae (putF "said" (.ref ds) J) g6
  have u5:=s6.trans s7
  have u4:=s5.trans u5
  have u3:=s4.trans u4
  exact q _ ⟨dx,lw,D3,D4,D5,D6,ds,putF "said" (.ref ds) J,Xo ps,y4,y5,y6,{
   hp:=Qc
   fe:=by subst e6 e5 e4 e3 e2 e1;rfl
   hW:=(s3.trans u3).lst aa (i2▸c2)
   hB:=u3.lst L (i3▸c3)
   hH:=u4.lst G c4
   hS:=u5.lst m c5
   hA:=s7.lst Z c6
   tH:=t4.frP u4 G
   tS:=t5.frP u5 m
   tA:=t6.frP s7 Z
   hI:=f7 _ _ S (Ym S af (by intro z;cases z))
   sd:=⟨fun r c aC=>(let ⟨t,e1,e2⟩:=ag.1 r c aC;⟨t,e1,Qth af e2⟩),ag.2⟩
   wo:=Qlz hs bk.wb
   kl:=wZ (Qbb ps) Om }⟩ g7
abbrev Vz:Stmt:=inClass (top 14) 1
abbrev Qbp:Stmt:=inClass (top 14) 2
abbrev Qbq:Stmt:=inClass (top 14) 6
theorem cut2(a b c:V):cutV [a,b,c] none (some 2)=[a,b]:=by
 unfold cutV
 rw[HT.sIx_none,show(2:Int)=((2:Nat):Int)from rfl,HT.sIx_nat]
 rfl
theorem Qib(g:SaidOk K H kvs B){w:Str}(h:BR.way w v l c∈B){ds t3:Addr}(d:H ds=some (.dT kvs))(f:H t3=some (.tup [.str "way",.str w,.str v])):∃t,DGet H ds (.ref t3) (some (.ref t))/\SqT K H t [.int l,.int c]:=by
 obtain⟨t,e,b⟩:=g.1 _ h (Sn "way" "shut")
 have a:=DGet.t (k:=(BR.way w v l c).key) d f
 rw[e]at a
 exists t,a,b
theorem Qxk(e:WB n B)(k:Fin 3)(w v t:Str):(B.filterMap (Zz k w v t)).Pairwise fun _ _=>False:=by
 rw[yQc]
 refine e.nd.imp fun{r q} c x hx y hy=>?_
 have b:=manyOf_some.mp hx
 have d:=manyOf_some.mp hy
 subst b d
 have a:¬useW k="shut":=by
  match k with
  |0=>decide +kernel
  |1=>decide +kernel
  |2=>decide +kernel
 rcases c with z | z | z
 .exact a z
 .exact a z
 .exact z rfl
theorem Qtj(c:WB n B){k:Fin 3}{w t:Str}(h:BR.use k w v t m∈B):Yv B k w v t=m:=by
 have b:m∈B.filterMap (Zz k w v t):=xX.mpr ⟨_,h,manyOf_some.mpr rfl⟩
 have a:=Qxk c k w v t
 unfold Yv
 revert b a
 generalize B.filterMap (Zz k w v t)=L
 intro b a
 match L,b,a with
 |[x],b,_=>
  rw[jV.mp b]
  show x+0=x
  lia
 |x::y::L,_,a=>exact Y21 ((jYb.mp a).1 y jY) (fun z=>z)
theorem Qtk{k:Fin 3}{w t:Str}(h:∀m,BR.use k w v t m∉B):Yv B k w v t=0:=by
 unfold Yv
 cases e:B.filterMap (Zz k w v t)with
 |nil=>rfl
 |cons x L=>
  have b:x∈B.filterMap (Zz k w v t):=by rw[e];exact jY
  obtain⟨r,a,c⟩:=xX.mp b
  rw[manyOf_some.mp c]at a
  exact Y21 a (h _)
theorem Qtl(l:WB n B)(c:SaidOk K H kvs B){k:Fin 3}{w t:Str}{t2:Addr}(y:SqT K H t2 [.int 0]):∃tl,(valV kvs [inr (useW k),inr w,inr v,inr t]).getD (.ref t2)=.ref tl/\SqT K H tl [.int (Yv B k w v t)]:=by
 by_cases b:∃m,BR.use k w v t m∈B
 .obtain⟨m,b⟩:=b
  have I:¬useW k="shut":=by
   match k with
   |0=>decide +kernel
   |1=>decide +kernel
   |2=>decide +kernel
  obtain⟨d,e,p⟩:=c.1 _ b I
  have i:valV kvs [inr (useW k),inr w,inr v,inr t]=some (.ref d):=e
  rw[i,Qtj l b]
  exists d,rfl,p
 .have a:∀m,BR.use k w v t m∉B:=fun m h=>b ⟨m,h⟩
  have e:valV kvs [inr (useW k),inr w,inr v,inr t]=none:=c.2 _ fun r E z=>by
   have G:((inr r.word:Key)::r.names.map inr)=[inr (useW k),inr w,inr v,inr t]:=z
   have A:r.word=useW k:=by
    injection G with q
    exact Y37 q
   obtain⟨o,f,j,m,rfl⟩:=Qjz A
   have u:[(inr (useW k):Key),inr o,inr f,inr j]=[inr (useW k),inr w,inr v,inr t]:=z
   injection u with _ C
   injection C with x g
   injection g with F s
   injection s with D
   cases x
   cases F
   cases D
   exact a _ E
  rw[e,Qtk a]
  exists t2,rfl,y
inductive Qge(K:Fg)(C:Addr)(vs:List V)(H:Hp)(Q:VK)(E:XK):Prop|mk(p ch:Addr)(n:Int)(B:List BR)(w v:Str)(b l c:Int)(_:vs=[.ref p,.ref ch])(_:FcAt K C H p n B)(_:SqT K H ch [.str w,.str v,.int b])(_:.way w v l c∈B)(_:∀H',Same H H'->Q (.int (b+l)) H'):Qge K C vs H Q E
inductive Qke(K:Fg)(C:Addr)(vs:List V)(H:Hp)(Q:VK)(E:XK):Prop|mk(p:Addr)(n:Int)(B:List BR)(w v:Str)(l c:Int)(_:vs=[.ref p,.str w,.str v])(_:FcAt K C H p n B)(_:.way w v l c∈B)(_:∀H',Same H H'->Q (.bl true) H'):Qke K C vs H Q E
inductive Qic(K:Fg)(C:Addr)(vs:List V)(H:Hp)(Q:VK)(E:XK):Prop|mk(p:Addr)(n:Int)(B:List BR)(w v:Str)(l c:Int)(_:vs=[.ref p,.str w,.str v])(_:FcAt K C H p n B)(_:.way w v l c∈B)(_:∀H',Same H H'->Q (.int (n-l)) H'):Qic K C vs H Q E
inductive Qid(K:Fg)(C:Addr)(vs:List V)(H:Hp)(Q:VK)(E:XK):Prop|mk(p ch:Addr)(n:Int)(B:List BR)(k:Fin 3)(w v t:Str)(b:Int)(_:vs=[.ref p,.str (useW k),.ref ch,.str t])(_:FcAt K C H p n B)(_:WB n B)(_:SqT K H ch [.str w,.str v,.int b])(_:∀H',Same H H'->Q (.int (Yv B k w v t)) H'):Qid K C vs H Q E
theorem scFcE:FnScope ["self","choice"] ["self","choice"] (Qh Qgb):=Sc
theorem Qpd(F:Fun K "end_of" "Facts.end_of" Qgb f fd)(T:FcTxt K mg C):FnOk P w K mg base CX0 1 f fd ["self","choice"] (Qge K C):=by
 refine F.ok scFcE (a:=fun y A i s H I Q E S h=>?_)
 .obtain⟨p,j,n,B,w,v,b,l,c,rfl,⟨u,lw,lb,Z,ls,Y,D,fs,O,U,M,X,g⟩,d,a,q⟩:=h
  have J:=Qni S
  exists _,(Qi (Qx (Qk Qy (Qs Yd (pv 1) Qe) (Qs Yd (Va J (Yq (pv 0) rfl) (Qk Qds (Yf (Qa Qq Qf)) (Xc Qjb (pv 1) Xn (Xe Qe))) (fun _ _=>rfl)) Qe)))),?_
  exists _,rfl,j,_,_,_,rfl,rfl,d,(show atI [V.str w,V.str v,V.int b] 2=some (.int b)from rfl),?_
  exists _,rfl,p,C,u,fs,_,rfl,g.hp,T.cl,T.nI,g.fI,Z1 1,fun x o=>?_
  have r:=Qd o (.tup [.str "way"])
  exists _,rfl,_,rfl,j,_,rfl,r.tup d,(by show ¬(HT.sIx 3 0 none=0/\HT.sIx 3 3 (some 2)=3);decide),fun N e=>?_
  rw[cut2]
  have R:=r.trans (Qd e (.tup [.str w,.str v]))
  exists x,N,_,_,rfl,rfl,(Qd e _).tup (Xb Qc),Xb Qc,by simp,Z1 3,fun z=>Y21 z (by simp),fun _ W k=>?_
  have m:=R.trans (Qd k (.tup ([.str "way"]++[.str w,.str v])))
  obtain⟨t,L,G⟩:=Qib (g.sd.same m) a (m _ _ g.hI) Qc
  exists D,_,rfl,L,t,_,_,_,rfl,rfl,G,at0,_,_,rfl,rfl,q _ m
theorem scFcY:FnScope ["self","work","way"] ["self","work","way"] (Qh Vz):=Sc
theorem okFcY(F:Fun K "is_way" "Facts.is_way" Vz f fd)(T:FcTxt K mg C):FnOk P w K mg base CX0 1 f fd ["self","work","way"] (Qke K C):=by
 refine F.ok scFcY (a:=fun j A e s H m Q E y h=>?_)
 .obtain⟨p,n,B,w,v,l,c,rfl,⟨i,N,M,L,O,J,k,fs,x,z,u,I,b⟩,a,q⟩:=h
  have o:=Qni y
  exists _,(Qi (Qx (pe_cmp (pc_din o (Yf (Qa Qq (Qa (pv 1) (Qa (pv 2) Qf)))) (Yq (pv 0) rfl))))),?_
  exists _,rfl,_,rfl,Z1 3,fun D g=>?_
  have d:=Qd g (.tup [.str "way",.str w,.str v])
  obtain⟨t,r,G⟩:=Qib (b.sd.same d) a (d _ _ b.hI) Qc
  exists _,rfl,p,C,i,fs,_,rfl,d _ _ b.hp,T.cl,T.nI,b.fI,k,_,rfl,r,q _ d
theorem scFcL:FnScope ["self","work","way"] ["self","work","way"] (Qh Qbp):=Sc
theorem okFcL(F:Fun K "last_begin" "Facts.last_begin" Qbp f fd)(T:FcTxt K mg C):FnOk P w K mg base CX0 1 f fd ["self","work","way"] (Qic K C):=by
 refine F.ok scFcL (a:=fun j A d s H o Q E z h=>?_)
 .obtain⟨p,n,B,w,v,l,c,rfl,⟨i,N,M,L,O,J,k,fs,y,D,x,I,a⟩,b,q⟩:=h
  have r:=Qni z
  exists _,(Qi (Qx (Qk Qal (Yq (pv 0) rfl) (Qs Yd (Va r (Yq (pv 0) rfl) (Yf (Qa Qq (Qa (pv 1) (Qa (pv 2) Qf)))) (fun _ _=>rfl)) Qe)))),?_
  exists _,rfl,p,C,i,fs,_,rfl,a.hp,T.cl,T.nD,a.fD,_,rfl,p,C,i,fs,_,rfl,a.hp,T.cl,T.nI,a.fI,_,rfl,_,rfl,Z1 3,fun G e=>?_
  have g:=Qd e (.tup [.str "way",.str w,.str v])
  obtain⟨t,u,m⟩:=Qib (a.sd.same g) b (g _ _ a.hI) Qc
  exists k,_,rfl,u,t,_,_,_,rfl,rfl,m,at0,_,_,rfl,rfl,q _ g
theorem scFcM:FnScope ["self","word","choice","name"] ["self","word","choice","name"] (Qh Qbq):=Sc
theorem Qxl(F:Fun K "many" "Facts.many" Qbq f fd)(T:FcTxt K mg C):FnOk P w K mg base CX0 1 f fd ["self","word","choice","name"] (Qid K C):=by
 refine F.ok scFcM (a:=fun S A i s H vs Q E hr h=>?_)
 .obtain⟨p,N,n,B,k,w,v,t,b,rfl,⟨R,lw,lb,lh,ls,la,Z,fs,J,yh,aa,ya,d⟩,Y,u,q⟩:=h
  have hu:=Qni hr
  exists _,(Qi (Qx (Qs Yd (Qse hu (Yq (pv 0) rfl) (Qk Qds (Qk Qds (Yf (Qa (pv 1) Qf)) (Xc Qjb (pv 2) Xn (Xe Qe))) (Yf (Qa (pv 3) Qf))) (Yf (Qa Qe Qf)) ⟨rfl,rfl,rfl,rfl⟩) Qe))),?_
  exists _,rfl,p,C,R,fs,_,rfl,d.hp,T.cl,T.nI,d.fI,Z,rfl,.inr ⟨J,.inl d.hI⟩,_,rfl,Z1 1,fun U L=>?_
  have O:=Qd L (.tup [.str (useW k)])
  exists _,rfl,_,rfl,N,_,rfl,O.tup u,(by show ¬(HT.sIx 3 0 none=0/\HT.sIx 3 3 (some 2)=3);decide),fun t2 I=>?_
  rw[cut2]
  have e:=Qd I (.tup [.str w,.str v])
  have s2:=O.trans e
  exists U,t2,_,_,rfl,rfl,e.tup (Xb Qc),Xb Qc,by simp,Z1 3,fun z=>Y21 z (by simp),fun _ W G=>?_
  have r:=Qd G (.tup ([.str (useW k)]++[.str w,.str v]))
  have s3:=s2.trans r
  exists _,rfl,Z1 1,fun X m=>?_
  have a:=Qd m (.tup [.str t])
  have s4:=s3.trans a
  exists W,X,_,_,rfl,rfl,a.tup (Xb Qc),Xb Qc,by simp,Z1 4,fun z=>Y21 z (by simp),fun _ t5 M=>?_
  have j:=Qd M (.tup (([.str (useW k)]++[.str w,.str v])++[.str t]))
  have s5:=s4.trans j
  exists Z1 1,fun t6 D=>?_
  have c:=Qd D (.tup [.int 0])
  have l:=s5.trans c
  have g:=c _ _ (Qc (o:=.tup (([.str (useW k)]++[.str w,.str v])++[.str t])))
  obtain⟨tl,y,x⟩:=Qtl (k:=k) (w:=w) (v:=v) (t:=t) Y (d.sd.same l) (Xb Qc)
  exists _,DGet.t (k:=[inr (useW k),inr w,inr v,inr t]) (l _ _ d.hI) g,?_
  rw[y]
  exists tl,_,_,_,rfl,rfl,x,(show atI [V.int (Yv B k w v t)] 0=some _ from rfl),q _ l
abbrev Qbr:Stmt:=inClass (top 14) 7
abbrev Qbs:Stmt:=inClass (top 14) 8
def Qcm(B:List BR)(st:Str)(day:Int)(p:Str×Str×Int):Int:=(if p.2.2+lenB B p.1 p.2.1<=day then Yv B 2 p.1 p.2.1 st else 0)-(if p.2.2<=day then Yv B 1 p.1 p.2.1 st else 0)
inductive Qie(K:Fg)(C:Addr)(vs:List V)(H:Hp)(Q:VK)(E:XK):Prop|mk(p ch:Addr)(n:Int)(B:List BR)(w v bn:Str)(b l c day:Int)(_:vs=[.ref p,.ref ch,.str bn,.int day])(_:FcAt K C H p n B)(_:WB n B)(_:SqT K H ch [.str w,.str v,.int b])(_:.way w v l c∈B)(_:∀H',Same H H'->Q (.int (useR B bn day (w,v,b))) H'):Qie K C vs H Q E
inductive Qpe(K:Fg)(C:Addr)(vs:List V)(H:Hp)(Q:VK)(E:XK):Prop|mk(p ch:Addr)(n:Int)(B:List BR)(w v bn:Str)(b l c day:Int)(_:vs=[.ref p,.ref ch,.str bn,.int day])(_:FcAt K C H p n B)(_:WB n B)(_:SqT K H ch [.str w,.str v,.int b])(_:.way w v l c∈B)(_:∀H',Same H H'->Q (.int (Qcm B bn day (w,v,b))) H'):Qpe K C vs H Q E
theorem scFcU:FnScope ["self","choice","bench","day"] ["self","choice","bench","day"] (Qh Qbr):=Sc
theorem okFcU(F:Fun K "used_by" "Facts.used_by" Qbr f fd)(T:FcTxt K mg C)(W:FnOk P w K mg base CX0 1 fE fdE ["self","choice"] (Qge K C))(L:Binds K fdE ["self","choice"] [])(I:Meth K C "end_of" fE)(X:FnOk P w K mg base CX0 1 fM fdM ["self","word","choice","name"] (Qid K C))(N:Binds K fdM ["self","word","choice","name"] [])(J:Meth K C "many" fM):FnOk P w K mg base CX0 2 f fd ["self","choice","bench","day"] (Qie K C):=by
 refine F.ok scFcU (a:=fun D A r s H G Q E S h=>?_)
 .obtain⟨p,m,n,B,w,v,i,b,l,c,a,rfl,e,x,g,d,q⟩:=h
  obtain⟨u,lw,lb,lh,ls,la,Z,fs,O,Y,M,ya,o⟩:=id e
  have j:Room 1 _:=S.mono Dc
  have U:useR B i a (w,v,b)=if b<=a/\a<b+l then Yv B 0 w v i else 0:=by
   show(if b<=a/\a<b+lenB B w v then Yv B 0 w v i else 0)=_
   rw[Zl x d]
  rw[U]at q
  exists _,(Qg (Xp (Qdr Wz Qam (Qs Yd (pv 1) Qe) (pv 3) (Zf (pv 0) T.cl I W j L .nil Jx (Qa (pv 1) Qf))) (Qi (Qx (Zf (pv 0) T.cl J X j N .nil Jx (Qa Qq (Qa (pv 1) (Qa (pv 2) Qf)))))) Qv) (Qi (Qx Qe))),?_
  exists _,rfl,m,_,_,_,rfl,rfl,g,(show atI [V.str w,V.str v,V.int b] 2=some (.int b)from rfl),_,rfl,_,_,rfl,rfl,_,rfl,ite2 (fun y=>?_) (fun y=>⟨_,rfl,iteF ?_⟩)
  .refine⟨_,rfl,p,u,fs,rfl,o.hp,o.nE,_,rfl,p,m,n,B,w,v,b,l,c,rfl,e,g,d,fun H1 k=>⟨_,_,rfl,rfl,_,rfl,ite2 (fun t=>?_) (fun t=>?_)⟩⟩
   .rw[Y22 ⟨kZ y,kZ t⟩]at q
    exists _,rfl,p,u,fs,rfl,k _ _ o.hp,o.nM,_,rfl,_,rfl,p,m,n,B,0,w,v,i,b,rfl,e.same k,x,k.tup g,fun H2 R=>q _ (k.trans R)
   .rw[Y20 (fun z=>t (yX z.2))]at q
    exact q _ k
  .rw[Y20 (fun z=>y (yX z.1))]at q
   exact q _ (Same.refl _)
theorem scFcG:FnScope ["self","choice","store","day","gain"] ["self","choice","store","day"] (Qh Qbs):=Sc
theorem okFcG(F:Fun K "gain_by" "Facts.gain_by" Qbs f fd)(T:FcTxt K mg C)(GE:FnOk P w K mg base CX0 1 fE fdE ["self","choice"] (Qge K C))(Y:Binds K fdE ["self","choice"] [])(W:Meth K C "end_of" fE)(R:FnOk P w K mg base CX0 1 fM fdM ["self","word","choice","name"] (Qid K C))(O:Binds K fdM ["self","word","choice","name"] [])(N:Meth K C "many" fM):FnOk P w K mg base CX0 2 f fd ["self","choice","store","day"] (Qpe K C):=by
 refine F.ok scFcG (a:=fun S A J s H U Q E hr h=>?_)
 .obtain⟨p,t,n,B,w,v,j,b,l,c,M,rfl,d,r,g,a,q⟩:=h
  obtain⟨G,lw,lb,lh,ls,la,ds,fs,aa,yh,Z,ya,m⟩:=id d
  have x:Room 1 _:=hr.mono Dc
  exists _,(Qg (Z4 4 scFcG.nd Qe) (Qg (Xp (Ql Wz (Qs Yd (pv 1) Qe) (pv 3) (Qp _)) (Qi (Qmo (i:=4) scFcG.nd rfl (inl rfl) (Zf (pv 0) T.cl N R x O .nil Jx (Qa Qq (Qa (pv 1) (Qa (pv 2) Qf)))) ip_sub)) Qv) (Qg (Xp (Ql Wz (Zf (pv 0) T.cl W GE x Y .nil Jx (Qa (pv 1) Qf)) (pv 3) (Qp _)) (Qi (Qmo (i:=4) scFcG.nd rfl (inl rfl) (Zf (pv 0) T.cl N R x O .nil Jx (Qa Qq (Qa (pv 1) (Qa (pv 2) Qf)))) ip_add)) Qv) (Qi (Qx (pv 4)))))),?_
  exists _,rfl,t,_,_,_,rfl,rfl,g,(show atI [V.str w,V.str v,V.int b] 2=some (.int b)from rfl),_,rfl,_,_,rfl,rfl,_,rfl,ite2 (fun y=>?_) (fun y=>?_)
  .refine⟨_,rfl,_,rfl,p,G,fs,rfl,m.hp,m.nM,_,rfl,_,rfl,p,t,n,B,1,w,v,j,b,rfl,d,r,g,fun H2 k=>⟨_,_,rfl,rfl,?_⟩⟩
   exists _,rfl,p,G,fs,rfl,k _ _ m.hp,m.nE,_,rfl,p,t,n,B,w,v,b,l,c,rfl,d.same k,k.tup g,a,fun X I=>⟨_,rfl,_,_,rfl,rfl,_,rfl,ite2 (fun u=>?_) (fun u=>?_)⟩
   .have o:=k.trans I
    exists _,rfl,_,rfl,p,G,fs,rfl,o _ _ m.hp,m.nM,_,rfl,_,rfl,p,t,n,B,2,w,v,j,b,rfl,d.same o,r,o.tup g,fun H5 L=>⟨_,_,rfl,rfl,?_⟩
    exists _,rfl,?_
    have e:=q _ (o.trans L)
    unfold Qcm at e
    rw[Zl r a,Y22 (kZ u),Y22 (kZ y)]at e
    have D:0-Yv B 1 w v j+Yv B 2 w v j=Yv B 2 w v j-Yv B 1 w v j:=Om
    dsimp only
    rw[D]
    exact e
   .refine⟨_,rfl,?_⟩
    have e:=q _ (k.trans I)
    unfold Qcm at e
    rw[Zl r a,Y20 (fun z=>u (yX z)),Y22 (kZ y)]at e
    have D:0-Yv B 1 w v j=0-Yv B 1 w v j:=Om
    first | exact e | (rw[D];exact e)
  .have k:=Same.refl H
   exists _,rfl,p,G,fs,rfl,k _ _ m.hp,m.nE,_,rfl,p,t,n,B,w,v,b,l,c,rfl,d.same k,k.tup g,a,fun X I=>⟨_,rfl,_,_,rfl,rfl,_,rfl,ite2 (fun u=>?_) (fun u=>?_)⟩
   .have o:=k.trans I
    exists _,rfl,_,rfl,p,G,fs,rfl,o _ _ m.hp,m.nM,_,rfl,_,rfl,p,t,n,B,2,w,v,j,b,rfl,d.same o,r,o.tup g,fun H5 L=>⟨_,_,rfl,rfl,?_⟩
    exists _,rfl,?_
    have e:=q _ (o.trans L)
    unfold Qcm at e
    rw[Zl r a,Y22 (kZ u),Y20 (fun z=>y (yX z))]at e
    have D:0+Yv B 2 w v j=Yv B 2 w v j-0:=Om
    dsimp only
    rw[D]
    exact e
   .refine⟨_,rfl,?_⟩
    have e:=q _ (k.trans I)
    unfold Qcm at e
    rw[Zl r a,Y20 (fun z=>u (yX z)),Y20 (fun z=>y (yX z))]at e
    have D:0=0-0:=Om
    first | exact e | (rw[D];exact e)
abbrev Qbt:Stmt:=inClass (top 14) 9
theorem Qpf(g:SaidOk K H kvs B){b:Str}{r:Int}(h:BR.bench b r∈B){ds t3:Addr}(d:H ds=some (.dT kvs))(f:H t3=some (.tup [.str "bench",.str b])):∃t,DGet H ds (.ref t3) (some (.ref t))/\SqT K H t [.int r]:=by
 obtain⟨t,e,c⟩:=g.1 _ h (Sn "bench" "shut")
 have a:=DGet.t (k:=(BR.bench b r).key) d f
 rw[e]at a
 exists t,a,c
theorem Qtm{b:Str}{day r:Int}:Qlw B b r day=if ((B.filter (selW "shut")).map (Kt b day)).any id=true then 0 else r:=by
 unfold Qlw
 by_cases h:((B.filter (selW "shut")).map (Kt b day)).any id=true
 .rw[Y22 h,Y20]
  intro z
  obtain⟨x,j,e⟩:=jXe.mp h
  obtain⟨q,d,i⟩:=zK.mp j
  have a:q∈B.filter (Kt b day):=zV.mpr ⟨(zV.mp d).1,by rw[i];exact e⟩
  rw[jJa z]at a
  exact nomatch a
 .rw[Y20 h,Y22]
  cases e:B.filter (Kt b day)with
  |nil=>rfl
  |cons q L=>
   exfalso
   have a:q∈B.filter (Kt b day):=by rw[e];exact jY
   obtain⟨g,c⟩:=zV.mp a
   refine h (jXe.mpr ⟨true,zK.mpr ⟨q,zV.mpr ⟨g,?_⟩,c⟩,rfl⟩)
   refine yX ?_
   cases q with
   |shut b' f t=>rfl
   |_=>cases c
inductive Qpg(K:Fg)(C:Addr)(vs:List V)(H:Hp)(Q:VK)(E:XK):Prop|mk(p:Addr)(n:Int)(B:List BR)(bn:Str)(r day:Int)(_:vs=[.ref p,.str bn,.int day])(_:FcAt K C H p n B)(_:WB n B)(_:.bench bn r∈B)(_:∀H',Same H H'->Q (.int (Qlw B bn r day)) H'):Qpg K C vs H Q E
theorem scFcR:FnScope ["self","bench","day"] ["self","bench","day"] (Qh Qbt):=Sc
theorem okFcR(F:Fun K "room_of" "Facts.room_of" Qbt f fd)(M:Mg mg)(T:FcTxt K mg C):FnOk P w K mg base CX0 1 f fd ["self","bench","day"] (Qpg K C):=by
 refine F.ok scFcR (a:=fun ae A aa s H vs Q E hr h=>?_)
 .obtain⟨p,n,B,u,r,a,rfl,ab,wb,Y,q⟩:=h
  obtain⟨dx,lw,lb,lh,ls,la,ds,fs,ag,W,af,ya,d⟩:=id ab
  exists"z"
  have hu:=Qni hr
  have bl:=wb.len
  have lt:=Paired.length d.tH
  have lf:(B.filter (selW "shut")).length<=B.length:=jYa _ _
  exists _,(Qg (Xp (Jz (Qr (Qno rfl) rfl M.any bt_any (Qa (Yh ["name","begin","end","bench","day"] [none,none,none,some 1,some 2] rfl (Xd (Yq (pv 0) rfl)) (fun _ _ _=>(Qoc (K:=K) (i:=0) (j:=1) (l:=2) rfl rfl (show(["name","begin","end","bench","day"]:List Str).Nodup by decide +kernel) rfl rfl rfl rfl rfl rfl)) (fun _ _ _=>Zg) (fun _ _ _=>(Vk (Jg Ye (pv 0) (pv 3) (Qp _)) (Ws (Qdq Wz Qam (pv 1) (pv 4) (pv 2)))))) Qf))) (Qi (Qx Qe)) Qv) (Qi (Qx (Qs Yd (Va hu (Yq (pv 0) rfl) (Yf (Qa Qq (Qa (pv 1) Qf))) (fun _ _=>rfl)) Qe)))),?_
  exists _,rfl,p,C,dx,fs,_,rfl,d.hp,T.cl,T.nH,d.fH,lh,rfl,⟨_,Qb d.hH⟩,fun D hD=>?_
  let X:Nat->St->List V->Hp->Prop:=fun m O k N=>∃G v J:Option V,O=[G,v,J,some (.str u),some (.int a)]/\k=(((B.filter (selW "shut")).take m).map (Kt u a)).map V.bl/\N D=some (.lst k)/\Same H N
  refine Zi (n:=W.length) X ?_ (fun m O k N hm h=>?_) (fun m O k N hm h=>?_) (fun O k N h=>?_) ?_ ?_
  .exact⟨none,none,none,rfl,rfl,Qc,Qd hD _⟩
  .obtain⟨G,v,J,rfl,I,L,g⟩:=h
   exists L,by rw[I,jX,jX,zZ];lia
  .obtain⟨G,v,J,rfl,I,L,g⟩:=h
   exists W,W[m]'hm,g.seq (Qb d.hH),gE hm
  .obtain⟨G,v,J,rfl,I,L,g⟩:=h
   exists W,g.seq (Qb d.hH),jJ _
  .rintro m O k N x H2 hm ⟨G,v,J,rfl,I,L,g⟩ ⟨rfl,e1⟩
   obtain⟨r',U,t,rfl,hT⟩:=Xh d.tH (e1 _ (g.seq (Qb d.hH)))
   obtain⟨Z,f',R,rfl⟩:=Qox (kZ (zV.mp (kY U)).2)
   have ac:SqT K H2 t [.str Z,.int f',.int R]:=g.tup hT
   have fin:∀S:Bool,S=Kt u a (.shut Z f' R)->H2 D=some (.lst k)/\∃G v J:Option V,([some (.str Z),some (.int f'),some (.int R),some (.str u),some (.int a)]:St)=[G,v,J,some (.str u),some (.int a)]/\k++[V.bl S]=(((B.filter (selW "shut")).take (m+1)).map (Kt u a)).map V.bl/\upd H2 D (.lst (k++[V.bl S])) D=some (.lst (k++[V.bl S]))/\Same H (upd H2 D (.lst (k++[V.bl S]))):=fun S hb=>by
    exists L,_,_,_,rfl,?_,Qc,fun c o e=>?_
    .rw[Jn U,yK,yK,I,hb];rfl
    .rw[Qj (Qm e hD)];exact g _ _ e
   have eS:Kt u a (.shut Z f' R)=decide (Z=u/\f'<=a/\a<R):=rfl
   exists t,_,rfl,ac,rfl,_,_,rfl,_,_,rfl,_,_,rfl,rfl,?_
   exists _,rfl,_,rfl,rfl,_,rfl,ite2 (fun y=>?_) (fun y=>?_)
   .refine⟨_,rfl,_,rfl,_,_,rfl,rfl,_,rfl,ite2 (fun y2=>⟨_,rfl,_,_,rfl,rfl,?_⟩) (fun y2=>?_)⟩
    .refine fin _ ?_
     rw[eS]
     by_cases e:a<R
     .rw[yX e,yX ⟨eqS y,kZ y2,e⟩]
     .rw[xK e,xK (fun z=>e z.2.2)]
    .exact fin _ (by rw[eS,xK (fun z=>y2 (yX z.2.1))])
   .exact fin _ (by rw[eS,xK (fun z=>y (by rw[z.1];exact yesS _))])
  .rintro O k N ⟨G,v,J,rfl,I,L,g⟩
   rw[show W.length=(B.filter (selW "shut")).length from lt,yW]at I
   subst I
   rw[Qtm]at q
   exists D,_,rfl,Qb L,_,rfl,ite2 (fun y=>?_) (fun y=>?_)
   .rw[Y22 y]at q
    exact q _ g
   .rw[Y20 y]at q
    exists _,rfl,p,C,dx,fs,_,rfl,g _ _ d.hp,T.cl,T.nI,d.fI,_,rfl,Z1 2,fun t1 ad=>?_
    have s2:=g.trans (Qd ad (.tup [.str "bench",.str u]))
    obtain⟨t,dg,hT⟩:=Qpf (d.sd.same s2) Y (s2 _ _ d.hI) Qc
    exists ds,_,rfl,dg,t,_,_,_,rfl,rfl,hT,(show atI [V.int r] 0=some _ from rfl),q _ s2
abbrev Qgf:Stmt:=top 16
def Jr(K:Fg)(H:Hp)(pl:Z7):List V->List Str->Prop:=Paired fun v w=>∃t,v=.ref t/\SqT K H t [.str w,.str (look pl w).1,.int (look pl w).2]
inductive Qph(K:Fg)(C:Addr)(vs:List V)(H:Hp)(Q:VK)(E:XK):Prop|mk(p P:Addr)(n:Int)(B:List BR)(pl:Z7)(_:vs=[.ref p,.ref P])(_:FcAt K C H p n B)(_:BookOk n B)(_:PlanAt K H P pl)(_:PlanFor n B pl)(_:B.flatMap (gW pl)=[])(_:∀(D:Addr) (ys:List V) (H':Hp),Same H H'->H' D=some (.lst ys)->Jr K H' pl ys (wks B)->Q (.ref D) H'):Qph K C vs H Q E
theorem pl_all(a:PlanFor n B pl)(j:WB n B)(k:B.flatMap (gW pl)=[]):pl.Perm ((wks B).map fun w=>(w,look pl w)):=by
 have nd:=a.nd j
 have d:(wks B).filter (hasW B)=wks B:=List.filter_eq_self.mpr fun w g=>by
  have e:=hasK_iff.mp (Zq k (wks_mem.mp g))
  exact(zV.mp (a.keys.mem_iff.mp e)).2
 have i:pl=(pl.map (·.1)).map fun w=>(w,look pl w):=by
  rw[kQa]
  refine(List.map_id pl).symm.trans (kJe fun p h=>?_)
  obtain⟨w,v,b⟩:=p
  show(w,v,b)=(w,look pl w)
  rw[Qpb nd h]
 have c:=a.keys
 rw[d]at c
 have f:=c.map fun w=>(w,look pl w)
 rwa [<-i]at f
theorem Qxm{a b:List Int}(h:a.Perm b):a.sum=b.sum:=by
 induction h with
 |nil=>rfl
 |cons x _ ih=>rw[jZa,jZa,ih]
 |swap x y l=>rw[jZa,jZa,jZa,jZa];lia
 |trans _ _ i j=>exact i.trans j
theorem Qpi(a:PlanFor n B pl)(b:WB n B)(c:B.flatMap (gW pl)=[])(f:Str×Str×Int->Int):(pl.map f).sum=((wks B).map fun w=>f (w,look pl w)).sum:=by
 have h:=Qxm ((pl_all a b c).map f)
 rw[kQa]at h
 exact h
theorem Qxn:FnScope ["facts","plan"] ["facts","plan"] (Qh Qgf):=Sc
theorem Qxo(F:Fn K mg "choices_taken" Qgf)(T:FcTxt K mg C):Cal P w K mg base 1 "choices_taken" ["facts","plan"] (Qph K C):=by
 refine Xv F Qxn (fun _ _ _ _ _ _=>Ji (fun _ _=>rfl)) (fun vs H Q E h=>?_) (fun f aa A O s H vs Q E hr h=>?_)
 .obtain⟨p,P,n,B,pl,rfl,_⟩:=h
  rfl
 obtain⟨p,P,n,B,pl,rfl,S,bk,hP,I,hW,q⟩:=h
 obtain⟨dx,lw,lb,lh,ls,la,ds,fs,ac,yh,ab,ya,U⟩:=id S
 have hp:=U.hp
 have R:=U.fW
 have d:=U.hW
 exists"z"
 have hu:=Z6 1 hr.un
 have bl:=bk.wb.len
 have wl:(wks B).length<=B.length:=xQ _ _
 have nd:=I.nd bk.wb
 exists _,(Qi (Qx (Yh ["work","plan"] [none,some 1] rfl (Xd (Yq (pv 0) rfl)) (fun _ _ _=>(Z3 0 (show(["work","plan"]:List Str).Nodup by decide +kernel))) (fun _ _ _=>Zg) (fun _ _ _=>(Qk (Qsk (K:=K) rfl) (Yf (Qa (pv 0) Qf)) (Va hu (pv 1) (pv 0) (fun _ _=>rfl))))))),?_
 exists _,rfl,p,C,dx,fs,_,rfl,hp,T.cl,T.nW,R,lw,rfl,⟨_,Qb d⟩,fun D Y=>?_
 let L:Nat->St->List V->Hp->Prop:=fun m y i g=>∃v:Option V,y=[v,some (.ref P)]/\Jr K g pl i ((wks B).take m)/\i.length<=m/\g D=some (.lst i)/\Same H g
 refine Zi (n:=(wks B).length) L ?_ (fun m y i g N h=>?_) (fun m y i g N h=>?_) (fun y i g h=>?_) ?_ ?_
 .exact⟨none,rfl,.nil,jJ _,Qc,Qd Y _⟩
 .obtain⟨v,rfl,k,J,r,a⟩:=h
  exists r,Om
 .obtain⟨v,rfl,k,J,r,a⟩:=h
  exists _,.str (wks B)[m],a.seq (Qb d),by rw[yZ,gE N];rfl
 .obtain⟨v,rfl,k,J,r,a⟩:=h
  exists _,a.seq (Qb d),by rw[jX];exact jJ _
 .rintro m y i g x H2 N ⟨v,rfl,k,J,r,a⟩ ⟨rfl,e1⟩
  have M:(wks B)[m]?=some (wks B)[m]:=gE N
  have ex:=e1 _ (a.seq (Qb d))
  rw[yZ,M]at ex
  cases ex
  generalize (wks B)[m]=wk at M
  obtain⟨l,c,G,_⟩:=I.get bk.wb (Zq hW (wks_mem.mp (kY M)))
  exists _,rfl,Z1 1,fun t1 X=>?_
  have Z:=Qd X (.tup [.str wk])
  obtain⟨t,dg,hT⟩:=Qkd (PlanAt.same hP (a.trans Z)) nd G
  exists _,rfl,_,rfl,P,_,rfl,dg,t1,t,_,_,rfl,rfl,Xb Qc,hT,by simp,Z1 3,fun p3 H3 s3 W=>?_
  have u:=Z.trans s3
  have j:=u _ _ r
  exists j,_,rfl,?_,by rw[jZ];exact wW J,Qc,fun b o e=>?_
  .rw[Jn M]
   exact Paired.snoc (Paired.mapP k fun _ _ ⟨t,e,z⟩=>⟨t,e,Zn j (u.tup z)⟩) ⟨p3,rfl,Zn j W⟩
  .rw[Qj (Qm e Y)];exact u _ _ (a _ _ e)
 .rintro y i g ⟨v,rfl,k,J,r,a⟩
  rw[yW]at k
  exact q D i g a r k
abbrev sWR:Stmt:=top 19
def TupK(H:Hp):List V->List (List Key)->Prop:=Paired fun v ks=>∃t,v=.ref t/\H t=some (.tup (ks.map kV))
theorem TupK.same(h:TupK H vs kss)(s:Same H H'):TupK H' vs kss:=Paired.mapP h fun _ _ ⟨t,e,z⟩=>⟨t,e,s _ _ z⟩
theorem TupK.updL{W:Addr}(h:TupK H vs kss)(a:H W=some (.lst xs)):TupK (upd H W (.lst zs)) vs kss:=Paired.mapP h fun _ _ ⟨t,e,z⟩=>⟨t,e,by rw[Qj (Ym z a (by intro q;cases q))];exact z⟩
def benchP:BR->Option (Str×Int)
 |.bench b r=>some (b,r)
 |_=>none
def bnP(B:List BR):List (Str×Int):=B.filterMap benchP
theorem bns_eq(B:List BR):bns B=(bnP B).map (·.1):=by
 unfold bns bnP
 rw[List.map_filterMap]
 congr 1
 funext r
 cases r<;>rfl
theorem Qxp{b:Str}{r:Int}(h:(b,r)∈bnP B):BR.bench b r∈B:=by
 obtain⟨q,a,e⟩:=xX.mp h
 cases q with
 |bench b' r'=>cases e;exact a
 |_=>cases e
theorem fm_fm{α β γ:Type}{g:α->List γ}{f:α->Option β}{h:β->List γ}(e:∀a,g a=match f a with | none=>[] | some b=>h b):∀L:List α,L.flatMap g=(L.filterMap f).flatMap h
 |[]=>rfl
 |a::L=>by
  rw[jYf,fm_fm e L,e a,jQf]
  cases f a with
  |none=>rfl
  |some b=>rw[jYf]
def hR(n:Int)(B:List BR)(pl:Z7)(q:Str×Int):List (List Key):=(Ku (fun day=>Qga B pl q.1 q.2 day<0) n.toNat).map fun d:Nat=>[inr ("room":Str),inr q.1,Sum.inl (d:Int)]
theorem gR_eq(n:Int)(B:List BR)(pl:Z7):B.flatMap (gR n B pl)=(bnP B).flatMap (hR n B pl):=fm_fm (fun a=>by cases a<;>rfl) B
theorem Kd{f:Int->Prop}[DecidablePred f](j:Nat):Ku f (j+1)=Ku f j++(if f j then[j]else[]):=by
 unfold Ku
 rw[yYa,jKa]
 congr 1
 by_cases e:f j
 .rw[Y22 e];simp[kQf,e]
 .rw[Y20 e];simp[kQf,e]
inductive spWR(K:Fg)(C:Addr)(vs:List V)(H:Hp)(Q:VK)(E:XK):Prop|mk(p tk:Addr)(n:Int)(B:List BR)(pl:Z7)(ys:List V)(_:vs=[.ref p,.ref tk])(_:FcAt K C H p n B)(_:BookOk n B)(_:PlanFor n B pl)(_:B.flatMap (gW pl)=[])(_:H tk=some (.lst ys))(_:Jr K H pl ys (wks B))(_:∀(D:Addr) (xs:List V) (H':Hp),Same H H'->H' D=some (.lst xs)->xs.length<=5000->TupK H' xs (B.flatMap (gR n B pl))->Q (.ref D) H'):spWR K C vs H Q E
theorem scWR:FnScope ["facts","taken","wrong","bench","day"] ["facts","taken"] (Qh sWR):=Sc
theorem okWR{fR:Addr}{fdR:FuncData}(F:Fn K mg "wrong_rooms" sWR)(M:Mg mg)(T:FcTxt K mg C)(GU:FnOk P w K mg base CX0 2 fU fdU ["self","choice","bench","day"] (Qie K C))(bU:Binds K fdU ["self","choice","bench","day"] [])(mU:Meth K C "used_by" fU)(GR:FnOk P w K mg base CX0 1 fR fdR ["self","bench","day"] (Qpg K C))(bR:Binds K fdR ["self","bench","day"] [])(mR:Meth K C "room_of" fR):Cal P w K mg base 4 "wrong_rooms" ["facts","taken"] (spWR K C):=by
 refine Xv F scWR (a:=fun f av A aq s H vs Q E hr h=>?_)
 obtain⟨p,tk,n,B,J,ys,rfl,ac,bk,ad,hW,ar,am,q⟩:=h
 obtain⟨dx,lw,lb,lh,ls,la,ds,fs,ay,yh,aw,ya,N⟩:=id ac
 exists"z"
 have bl:=bk.wb.len
 have n1:=bk.n1
 have ax:=bk.n12
 have lT:=Paired.length am
 have wl:(wks B).length<=B.length:=xQ _ _
 have az:(bnP B).length<=B.length:=xQ _ _
 have ak:H lb=some (.lst (((bnP B).map (·.1)).map V.str)):=by rw[<-bns_eq];exact N.hB
 refine⟨_,(Qg (Z4 2 scWR.nd (Xg Qf))
  (Qg (Yb Y33 rfl (Xd (Yq (pv 0) rfl)) (Z3 3 scWR.nd) (Qi (Yb Y33 rfl (Xs rfl M.range_ (Qa (Yq (pv 0) rfl) Qf)) (Z3 4 scWR.nd)
   (Qi (Xp (Ql Qcj (Qr (Vr rfl) rfl M.sum Qjf (Qa (Yh ["choice","facts","bench","day"] [none,some 0,some 3,some 4] rfl (Xd (pv 1)) (fun _ _ _=>(Z3 0 (show(["choice","facts","bench","day"]:List Str).Nodup by decide +kernel))) (fun _ _ _=>Zg) (fun _ _ _=>(Zf (pv 1) T.cl mU GU (hr.mono Dc) bU .nil Jx (Qa (pv 0) (Qa (pv 2) (Qa (pv 3) Qf)))))) Qf)) (Zf (pv 0) T.cl mR GR (hr.mono Dc) bR .nil Jx (Qa (pv 3) (Qa (pv 4) Qf))) (Qp _)) (Qi (Yj (Yt Y1 Y2 Y3 Xq (pv 2) (Qa (Yf (Qa Qq (Qa (pv 3) (Qa (pv 4) Qf)))) Qf)))) Qv)))))
  (Qi (Qx (pv 2))))),?_⟩
 exists Z1 0,fun W ah=>?_
 have s0:=Qd ah (.lst [])
 let an:Nat->St->Hp->Prop:=fun i S H1=>∃(v3 U:Option V) (xs:List V),S=[some (.ref p),some (.ref tk),some (.ref W),v3,U]/\H1 W=some (.lst xs)/\xs.length<=12*i/\TupK H1 xs (((bnP B).take i).flatMap (hR n B J))/\Same H H1
 exists _,rfl,p,C,dx,fs,_,rfl,s0 _ _ N.hp,T.cl,T.nB,N.fB,lb,rfl,⟨_,Qb (s0 _ _ ak)⟩,Yx (K:=K) (a:=lb) (xs:=((bnP B).map (·.1)).map V.str) an ⟨none,none,[],rfl,Qc,jJ _,.nil,s0⟩ (fun i S H1 _ h=>?_) ?_ ?_
 .obtain⟨v3,U,xs,rfl,R,lx,I,s1⟩:=h
  exact s1.seq (Qb ak)
 .rintro i x S H1 e1 ⟨v3,U,xs,rfl,R,lx,I,s1⟩
  rw[yZ,yZ]at e1
  obtain⟨⟨g,r⟩,eb⟩:∃q,(bnP B)[i]?=some q:=by
   cases e:(bnP B)[i]? with
   |none=>rw[e]at e1;cases e1
   |some q=>exists q,rfl
  rw[eb]at e1
  cases e1
  have af:=Qxp (kY eb)
  have il:=(jK.mp eb).1
  let ai:Nat->St->Hp->Prop:=fun j S H2=>∃(U:Option V) (xs:List V),S=[some (.ref p),some (.ref tk),some (.ref W),some (.str g),U]/\H2 W=some (.lst xs)/\xs.length<=12*i+j/\TupK H2 xs (((bnP B).take i).flatMap (hR n B J)++(Ku (fun ab=>Qga B J g r ab<0) j).map fun d:Nat=>[inr ("room":Str),inr g,Sum.inl (d:Int)])/\Same H H2
  exists _,rfl,p,C,dx,fs,_,rfl,s1 _ _ N.hp,T.cl,T.nD,N.fD,n,rfl,Om,Om,Xy (lo:=0) (n:=n.toNat) ai ⟨_,_,rfl,R,lx,by rw[show Ku (fun ab=>Qga B J g r ab<0) 0=[]from rfl,yQf,xV];exact I,s1⟩ ?_ ?_
  .rintro j S H2 hj ⟨U,xs,rfl,R,lx,I,s2⟩
   rw[kYd]
   have k:=s2 _ _ ar
   exists _,rfl,tk,rfl,⟨_,Qb k⟩,fun D hD=>?_
   let ae:Nat->St->List V->Hp->Prop:=fun m τ X Z=>∃v:Option V,τ=[v,some (.ref p),some (.str g),some (.int j)]/\X=(((wks B).take m).map fun w=>useR B g j (w,look J w)).map V.int/\Z D=some (.lst X)/\Same H2 Z
   refine Zi (n:=(wks B).length) ae ?_ (fun m τ X Z hm h=>?_) (fun m τ X Z hm h=>?_) (fun τ X Z h=>?_) ?_ ?_
   .exact⟨none,rfl,rfl,Qc,Qd hD _⟩
   .obtain⟨v,rfl,rfl,O,G⟩:=h
    exists O,by rw[jX,jX,zZ];lia
   .obtain⟨v,rfl,rfl,O,G⟩:=h
    exists ys,ys[m]'Om,G.seq (Qb k),gE Om
   .obtain⟨v,rfl,rfl,O,G⟩:=h
    exists ys,G.seq (Qb k),Om
   .rintro m τ X Z x H4 hm ⟨v,rfl,rfl,O,G⟩ ⟨rfl,e2⟩
    obtain⟨wk,aj,t,rfl,hT⟩:=Xh am (e2 _ (G.seq (Qb k)))
    obtain⟨l,c,au,ap,b0,b1⟩:=ad.get bk.wb (Zq hW (wks_mem.mp (kY aj)))
    have u:=s2.trans G
    exists _,rfl,p,dx,fs,rfl,u _ _ N.hp,N.nU,_,rfl,_,rfl,_,rfl,p,t,n,B,wk,_,g,_,l,c,j,rfl,ac.same u,bk.wb,u.tup hT,ap,fun H5 s5=>?_
    exists s5 _ _ O,_,rfl,?_,Qc,fun b o e=>?_
    .rw[Jn aj,yK,yK];rfl
    .rw[Qj (Qm e hD)];exact s5 _ _ (G _ _ e)
   .rintro τ X Z ⟨v,rfl,rfl,O,G⟩
    rw[yW]at O
    have u:=s2.trans G
    exists D,_,rfl,Qb O,_,rfl,p,dx,fs,rfl,u _ _ N.hp,N.nR,_,rfl,_,rfl,p,n,B,g,r,j,rfl,ac.same u,bk.wb,af,fun H4 s4=>?_
    have L:=G.trans s4
    have Y:=L _ _ R
    have al:=I.same L
    rw[<-Qpi ad bk.wb hW (useR B g j)]
    exists _,_,rfl,rfl,_,rfl,ite2 (fun y=>?_) (fun y=>?_)
    .have ao:Qga B J g r j<0:=by
      have z:(J.map (useR B g j)).sum > Qlw B g r j:=kZ y
      unfold Qga
      lia
     exists _,rfl,.inl ⟨rfl,_,Qb Y⟩,_,rfl,_,rfl,Z1 3,fun t ht=>?_
     have s5:=Qd ht (.tup [.str "room",.str g,.int j])
     have aa:=s5 _ _ Y
     exists W,_,_,rfl,rfl,aa,Om,_,_,rfl,Qc,by rw[jZ];exact wW lx,?_,fun b o e=>?_
     .rw[Kd,Y22 ao,yK,<-xY]
      exact Paired.snoc ((al.same s5).updL aa) ⟨t,rfl,by rw[Qj (Ym Qc aa (by intro z;cases z))];exact Qc⟩
     .rw[Qj (Qm e ah)];exact s5 _ _ (L _ _ (s2 _ _ e))
    .have ag:¬Qga B J g r j<0:=fun z=>y (yX (by
      unfold Qga at z
      show(J.map (useR B g j)).sum > Qlw B g r j
      lia))
     exists _,_,rfl,Y,Om,?_,s2.trans L
     rw[Kd,Y20 ag,xV]
     exact al
  .rintro S H2 ⟨U,xs,rfl,R,lx,I,s2⟩
   exists _,_,_,rfl,R,Om,?_,s2
   rw[Qeg _ eb]
   exact I
 .rintro S H1 ⟨v3,U,xs,rfl,R,lx,I,s1⟩
  rw[jX,jX]at lx I
  rw[yW,<-gR_eq]at I
  exists _,rfl,q W xs H1 s1 R Om I
abbrev sWS:Stmt:=top 20
theorem Qif(c m:Int):∀N:Nat,((List.range N).map fun dd:Nat=>if c=(dd:Int)then m else 0).sum=if 0<=c/\c<N then m else 0
 |0=>by rw[Y20 Om];rfl
 |N+1=>by
  rw[Ze (fun dd:Nat=>if c=(dd:Int)then m else 0),Qif c m N]
  by_cases e:c=(N:Int)
  .rw[Y22 e,Y20 Om,Y22 Om];lia
  .rw[Y20 e]
   by_cases a:0<=c/\c<N
   .rw[Y22 a,Y22 Om];lia
   .rw[Y20 a,Y20 Om];lia
theorem Qpj(f g:Nat->Int):∀N:Nat,((List.range N).map fun dd:Nat=>f dd-g dd).sum=((List.range N).map f).sum-((List.range N).map g).sum
 |0=>rfl
 |N+1=>by rw[Ze (fun dd=>f dd-g dd),Ze f,Ze g,Qpj f g N];lia
theorem Qkf{α:Type}(f:Nat->α->Int)(N:Nat):∀L:List α,((List.range N).map fun dd:Nat=>(L.map (f dd)).sum).sum=(L.map fun a=>((List.range N).map fun dd:Nat=>f dd a).sum).sum
 |[]=>by
  show((List.range N).map fun _:Nat=>(0:Int)).sum=0
  induction N with
  |zero=>rfl
  |succ N ih=>rw[Ze (fun _=>(0:Int)),ih];rfl
 |a::L=>by
  have h:=Qkf f N L
  have e:∀M:Nat,((List.range M).map fun dd:Nat=>((a::L).map (f dd)).sum).sum=((List.range M).map fun dd:Nat=>f dd a).sum+((List.range M).map fun dd:Nat=>(L.map (f dd)).sum).sum:=by
   intro M
   induction M with
   |zero=>rfl
   |succ M ih=>
    rw[Ze (fun dd=>((a::L).map (f dd)).sum),Ze (fun dd=>f dd a),Ze (fun dd=>(L.map (f dd)).sum),ih,zX,jZa]
    lia
  rw[e N,h,zX,jZa]
theorem Qxq(f:WB n B)(g:Qkc n B pl){p:Str×Str×Int}(h:p∈pl)(st:Str)(a:Nat):((List.range (a+1)).map fun dd:Nat=>chP B st dd p).sum=Qcm B st a p:=by
 obtain⟨l,c,b,m,k⟩:=g p h
 have d:=f.ok _ b
 have j:1<=l:=d.1
 have i:=Zl f b
 unfold Qcm
 have e:(fun dd:Nat=>chP B st dd p)=fun dd:Nat=>(if p.2.2+lenB B p.1 p.2.1=(dd:Int)then Yv B 2 p.1 p.2.1 st else 0)-(if p.2.2=(dd:Int)then Yv B 1 p.1 p.2.1 st else 0):=rfl
 rw[e,Qpj (fun dd:Nat=>if p.2.2+lenB B p.1 p.2.1=(dd:Int)then Yv B 2 p.1 p.2.1 st else 0),Qif,Qif,i]
 congr 1
 .by_cases e:p.2.2+l<=a
  .rw[Y22 e,Y22 Om]
  .rw[Y20 e,Y20 Om]
 .by_cases e:p.2.2<=a
  .rw[Y22 e,Y22 Om]
  .rw[Y20 e,Y20 Om]
theorem Qpk(f:WB n B)(c:Qkc n B pl)(st:Str)(b:Int)(a:Nat):Jb B pl st b a=b+(pl.map (Qcm B st a)).sum:=by
 unfold Jb
 congr 1
 have h:=Qkf (fun e p=>chP B st (e:Nat) p) (a+1) pl
 refine h.trans ?_
 congr 1
 exact kJe fun p d=>Qxq f c d st a
theorem Qbu{α β:Type}{g:α->List β}{f:α->Bool}(e:∀a,f a=false->g a=[]):∀L:List α,L.flatMap g=(L.filter f).flatMap g
 |[]=>rfl
 |a::L=>by
  rw[jYf,Qbu e L]
  cases h:f a with
  |true=>rw[jQe h,jYf]
  |false=>rw[wK (by rw[h];decide),e a h];rfl
inductive spWS(K:Fg)(C:Addr)(vs:List V)(H:Hp)(Q:VK)(E:XK):Prop|mk(p tk:Addr)(n:Int)(B:List BR)(pl:Z7)(ys:List V)(_:vs=[.ref p,.ref tk])(_:FcAt K C H p n B)(_:BookOk n B)(_:PlanFor n B pl)(_:B.flatMap (gW pl)=[])(_:H tk=some (.lst ys))(_:Jr K H pl ys (wks B))(_:∀(D:Addr) (xs:List V) (H':Hp),Same H H'->H' D=some (.lst xs)->xs.length<=5200->TupK H' xs (B.flatMap (gS n B pl))->Q (.ref D) H'):spWS K C vs H Q E
theorem scWS:FnScope ["facts","taken","wrong","store","most","first","day"] ["facts","taken"] (Qh sWS):=Sc
theorem okWS{fG:Addr}{fdG:FuncData}(F:Fn K mg "wrong_stores" sWS)(M:Mg mg)(T:FcTxt K mg C)(GG:FnOk P w K mg base CX0 2 fG fdG ["self","choice","store","day"] (Qpe K C))(bG:Binds K fdG ["self","choice","store","day"] [])(mG:Meth K C "gain_by" fG):Cal P w K mg base 4 "wrong_stores" ["facts","taken"] (spWS K C):=by
 refine Xv F scWS (a:=fun f aw A ao s H vs Q E hr h=>?_)
 obtain⟨p,tk,n,B,k,ys,rfl,al,bk,aa,hW,ar,ak,q⟩:=h
 obtain⟨dx,lw,lb,lh,ls,la,ds,fs,az,yh,af,ya,U⟩:=id al
 exists"z"
 have bl:=bk.wb.len
 have n1:=bk.n1
 have ax:=bk.n12
 have lT:=Paired.length ak
 have wl:(wks B).length<=B.length:=xQ _ _
 have ay:(B.filter (selW "store")).length<=B.length:=jYa _ _
 have lS:=Paired.length U.tS
 have ap:B.flatMap (gS n B k)=(B.filter (selW "store")).flatMap (gS n B k):=Qbu (fun a h=>gS_no (Y69 h)) B
 rw[ap]at q
 refine⟨_,(Qg (Z4 2 scWS.nd (Xg Qf))
  (Qg (Yb Y33 rfl (Xd (Yq (pv 0) rfl)) (Qiw rfl (Zr (Z3 3 scWS.nd) (Zr (Z3 4 scWS.nd) (Zr (Z3 5 scWS.nd) Qdo)))) (Qi (Yb Y33 rfl (Xs rfl M.range_ (Qa (Qk Qy (Yq (pv 0) rfl) Qe) Qf)) (Z3 6 scWS.nd)
   (Qi (Xp (Vj (Qdr Wz Wz Qe (Qk Qy (pv 5) (Qr (Vr rfl) rfl M.sum Qjf (Qa (Yh ["choice","facts","store","day"] [none,some 0,some 3,some 6] rfl (Xd (pv 1)) (fun _ _ _=>(Z3 0 (show(["choice","facts","store","day"]:List Str).Nodup by decide +kernel))) (fun _ _ _=>Zg) (fun _ _ _=>(Zf (pv 1) T.cl mG GG (hr.mono Dc) bG .nil Jx (Qa (pv 0) (Qa (pv 2) (Qa (pv 3) Qf)))))) Qf))) (pv 4))) (Qi (Yj (Yt Y1 Y2 Y3 Xq (pv 2) (Qa (Yf (Qa Qq (Qa (pv 3) (Qa (pv 6) Qf)))) Qf)))) Qv)))))
  (Qi (Qx (pv 2))))),?_⟩
 exists Z1 0,fun W ac=>?_
 have s0:=Qd ac (.lst [])
 let aj:Nat->St->Hp->Prop:=fun i σ Y=>∃(v3 v4 v5 v6:Option V) (xs:List V),σ=[some (.ref p),some (.ref tk),some (.ref W),v3,v4,v5,v6]/\Y W=some (.lst xs)/\xs.length<=13*i/\TupK Y xs (((B.filter (selW "store")).take i).flatMap (gS n B k))/\Same H Y
 exists _,rfl,p,C,dx,fs,_,rfl,s0 _ _ U.hp,T.cl,T.nS,U.fS,ls,rfl,⟨_,Qb (s0 _ _ U.hS)⟩,Yx (K:=K) (a:=ls) (xs:=af) aj ⟨none,none,none,none,[],rfl,Qc,jJ _,.nil,s0⟩ (fun i σ Y _ h=>?_) ?_ ?_
 .obtain⟨v3,v4,v5,v6,xs,rfl,Z,lx,R,s1⟩:=h
  exact s1.seq (Qb U.hS)
 .rintro i x σ Y e1 ⟨v3,v4,v5,v6,xs,rfl,Z,lx,R,s1⟩
  obtain⟨r',ad,t,rfl,hT⟩:=Xh U.tS e1
  obtain⟨g,mo,I,rfl⟩:=Qly (kZ (zV.mp (kY ad)).2)
  have aq:SqT K Y t [.str g,.int mo,.int I]:=s1.tup hT
  have il:=(jK.mp ad).1
  exists t,_,rfl,aq,rfl,_,_,rfl,_,_,rfl,_,_,rfl,rfl,?_
  have eN:(n+1).toNat=n.toNat+1:=Om
  exists _,rfl,p,C,dx,fs,_,rfl,s1 _ _ U.hp,T.cl,T.nD,U.fD,_,_,rfl,rfl,n+1,rfl,Om,Om,?_
  rw[eN]
  let an:Nat->St->Hp->Prop:=fun j σ H2=>∃(v6:Option V) (xs:List V),σ=[some (.ref p),some (.ref tk),some (.ref W),some (.str g),some (.int mo),some (.int I),v6]/\H2 W=some (.lst xs)/\xs.length<=13*i+j/\TupK H2 xs (((B.filter (selW "store")).take i).flatMap (gS n B k)++(Ku (fun N=>Jb B k g I N.toNat<0\/mo<Jb B k g I N.toNat) j).map fun d:Nat=>[inr ("store":Str),inr g,Sum.inl (d:Int)])/\Same H H2
  refine Xy (lo:=0) (n:=n.toNat+1) an ⟨_,_,rfl,Z,lx,by rw[show Ku (fun N=>Jb B k g I N.toNat<0\/mo<Jb B k g I N.toNat) 0=[]from rfl,yQf,xV];exact R,s1⟩ ?_ ?_
  .rintro j σ H2 hj ⟨v6,xs,rfl,Z,lx,R,s2⟩
   rw[kYd]
   have G:=s2 _ _ ar
   exists _,rfl,_,rfl,tk,rfl,⟨_,Qb G⟩,fun D hD=>?_
   let ag:Nat->St->List V->Hp->Prop:=fun m τ zs H3=>∃v:Option V,τ=[v,some (.ref p),some (.str g),some (.int j)]/\zs=(((wks B).take m).map fun w=>Qcm B g j (w,look k w)).map V.int/\H3 D=some (.lst zs)/\Same H2 H3
   refine Zi (n:=(wks B).length) ag ?_ (fun m τ zs H3 hm h=>?_) (fun m τ zs H3 hm h=>?_) (fun τ zs H3 h=>?_) ?_ ?_
   .exact⟨none,rfl,rfl,Qc,Qd hD _⟩
   .obtain⟨v,rfl,rfl,X,J⟩:=h
    exists X,by rw[jX,jX,zZ];lia
   .obtain⟨v,rfl,rfl,X,J⟩:=h
    exists ys,ys[m]'Om,J.seq (Qb G),gE Om
   .obtain⟨v,rfl,rfl,X,J⟩:=h
    exists ys,J.seq (Qb G),Om
   .rintro m τ zs H3 x H4 hm ⟨v,rfl,rfl,X,J⟩ ⟨rfl,e2⟩
    obtain⟨wk,ai,t',rfl,au⟩:=Xh ak (e2 _ (J.seq (Qb G)))
    obtain⟨l,c,av,am,b0,b1⟩:=aa.get bk.wb (Zq hW (wks_mem.mp (kY ai)))
    have ab:=s2.trans J
    exists _,rfl,p,dx,fs,rfl,ab _ _ U.hp,U.nG,_,rfl,_,rfl,_,rfl,p,t',n,B,wk,_,g,_,l,c,j,rfl,al.same ab,bk.wb,ab.tup au,am,fun H5 S=>?_
    exists S _ _ X,_,rfl,?_,Qc,fun b o e=>?_
    .rw[Jn ai,yK,yK];rfl
    .rw[Qj (Qm e hD)];exact S _ _ (J _ _ e)
   .rintro τ zs H3 ⟨v,rfl,rfl,X,J⟩
    rw[yW]at X
    have L:=J _ _ Z
    have ae:=R.same J
    have eS:=Qpk bk.wb aa.good g I j
    rw[Qpi aa bk.wb hW (Qcm B g j)]at eS
    exists D,_,rfl,Qb X,_,_,rfl,rfl,_,_,rfl,rfl,_,rfl,?_
    dsimp only
    rw[<-eS]
    refine ite2 (fun y=>⟨_,rfl,_,_,rfl,rfl,_,rfl,ite2 (fun y2=>?_) (fun y2=>?_)⟩) (fun y=>⟨_,rfl,ite2 (fun y2=>?_) (fun y2=>Y21 rfl y2)⟩)
    .have O:Jb B k g I ((j:Nat):Int).toNat<0\/mo<Jb B k g I ((j:Nat):Int).toNat:=by
      rw[jYe]
      refine .inr (Int.not_le.mp fun z=>?_)
      rw[yX z]at y2
      cases y2
     exists _,rfl,.inl ⟨rfl,_,Qb L⟩,_,rfl,_,rfl,Z1 3,fun t ht=>?_
     have S:=Qd ht (.tup [.str "store",.str g,.int j])
     have u:=S _ _ L
     exists W,_,_,rfl,rfl,u,Om,_,_,rfl,Qc,by rw[jZ];exact wW lx,?_,fun b o e=>?_
     .rw[Kd,Y22 O,yK,<-xY]
      exact Paired.snoc ((ae.same S).updL u) ⟨t,rfl,by rw[Qj (Ym Qc u (by intro z;cases z))];exact Qc⟩
     .rw[Qj (Qm e ac)];exact S _ _ (J _ _ (s2 _ _ e))
    .have ah:¬(Jb B k g I ((j:Nat):Int).toNat<0\/mo<Jb B k g I ((j:Nat):Int).toNat):=by
      rw[jYe]
      have z1:0<=Jb B k g I j:=kZ y
      intro z
      rcases z with z | z
      .omega
      .refine y2 ?_
       rw[xK Om]
       rfl
     exists _,_,rfl,L,Om,?_,s2.trans J
     rw[Kd,Y20 ah,xV]
     exact ae
    .have O:Jb B k g I ((j:Nat):Int).toNat<0\/mo<Jb B k g I ((j:Nat):Int).toNat:=by
      rw[jYe]
      exact .inl (Int.not_le.mp fun z=>y (yX z))
     exists _,rfl,.inl ⟨rfl,_,Qb L⟩,_,rfl,_,rfl,Z1 3,fun t ht=>?_
     have S:=Qd ht (.tup [.str "store",.str g,.int j])
     have u:=S _ _ L
     exists W,_,_,rfl,rfl,u,Om,_,_,rfl,Qc,by rw[jZ];exact wW lx,?_,fun b o e=>?_
     .rw[Kd,Y22 O,yK,<-xY]
      exact Paired.snoc ((ae.same S).updL u) ⟨t,rfl,by rw[Qj (Ym Qc u (by intro z;cases z))];exact Qc⟩
     .rw[Qj (Qm e ac)];exact S _ _ (J _ _ (s2 _ _ e))
  .rintro σ H2 ⟨v6,xs,rfl,Z,lx,R,s2⟩
   exists _,_,_,_,_,rfl,Z,Om,?_,s2
   rw[Qeg _ ad]
   exact R
 .rintro σ Y ⟨v3,v4,v5,v6,xs,rfl,Z,lx,R,s1⟩
  rw[show af.length=(B.filter (selW "store")).length from lS]at lx R
  rw[yW]at R
  exists _,rfl,q W xs Y s1 Z Om R
end
end Nb
namespace L2
open PySem PySem.Spec PyProof.Rows
def PairsK(K:Fg)(H:Hp):List V->List (Key×V)->Prop:=Paired fun v p=>∃t,v=.ref t/\SqT K H t [kV p.1,p.2]
theorem PairsK.get{ps:List (Key×V)}(h:PairsK K H vs ps):∀{i:Nat} {v:V},vs[i]?=some v->∃t p,v=.ref t/\ps[i]?=some p/\SqT K H t [kV p.1,p.2]:=by
 induction h with
 |nil=>intro i v e;simp at e
 |cons q t ih=>
  intro i v e
  cases i with
  |zero=>obtain⟨a,b,z⟩:=q;simp at e;subst e;exists a,_,b,rfl,z
  |succ i=>obtain⟨a,r,b,c,z⟩:=ih (i:=i) (v:=v) (by simpa using e);exists a,r,b,by simpa using c,z
theorem PairsK.imp{ps:List (Key×V)}(f:∀t xs,SqT K H t xs->SqT K H' t xs)(h:PairsK K H vs ps):PairsK K H' vs ps:=by
 induction h with
 |nil=>exact .nil
 |cons r t ih=>obtain⟨a,e,z⟩:=r;exact .cons ⟨a,e,f _ _ z⟩ ih
theorem PairsK.length{ps:List (Key×V)}(h:PairsK K H vs ps):vs.length=ps.length:=Paired.length h
def Xi(ps:List (Key×V)):List (Key×V):=ps.foldl (fun d p=>putK d p.1 p.2) []
theorem Je{ps:List (Key×V)}{p:Key×V}(h:ps[i]?=some p):Xi (ps.take (i+1))=putK (Xi (ps.take i)) p.1 p.2:=by
 unfold Xi
 rw[List.take_succ,h,List.foldl_append]
 rfl
theorem Qig(ps:List (Key×V)):(Xi ps).length<=ps.length:=by
 have:∀(l:List (Key×V)) (d:List (Key×V)),(l.foldl (fun d p=>putK d p.1 p.2) d).length<=d.length+l.length:=by
  intro l
  induction l with
  |nil=>intro d;simp
  |cons p r ih=>intro d;have:=ih (putK d p.1 p.2);have a:=Zo d p.1 p.2;simp only[yXe,yQ]at *;lia
 exact wZ (this ps []) (by simp)
theorem Qpl{l:Addr}{ps:List (Key×V)}(hh:A.handled=none)(W:H d=none)(Y:SqL X.K H l vs)(G:PairsK X.K H vs ps)(hz:ps.length<sizeLine)
  (hR:∀s',Inv X pins σ (upd H d (.dK (Xi ps))) s'->R (.ok (.ret .none)) s') :
  ∀(k i:Nat) (s:Shared),ps.length-i=k->i<=ps.length->Inv X pins σ (upd H d (.dK (Xi (ps.take i)))) s->s.heap.IsListIter it l i->FpOk X pins (upd H d (.dK (Xi (ps.take i)))) it ->
   codeAny (model X.prog X.w) A (.builtin "dict.update.loop" ⟨[.ref d,.ref it,rawInt i,.none],[]⟩) R s:=by
 intro k
 induction k with
 |zero=>
  intro i s hk hi I B f
  have J:i=ps.length:=Om
  subst J
  rw[yW]at I f
  have y:Same H (upd H d (.dK (Xi ps))):=Qd W _
  obtain⟨C,r,p,_⟩:=I.list (y.seq Y)
  have lv:=G.length
  have lr:=r.length
  refine Y28 Vv ?_
  rw[Y35 Zt _]
  show wpAny _ A.in1 (pyNext (.ref it) >>= _) _ _ s
  refine jQ (wpAny_pyNext_list_end (A:=A.in1) hh B p.isList (by simp;lia) fun D eb=>?_)
  refine jQ (kQ (kQ ?_))
  exact hR _ (I.turned (t':=s.toks) (fun b o E e=>eb b o E e) f.1 f.2.1 f.2.2.2.1 f.2.2.2.2.1 f.2.2.2.2.2)
 |succ k ih=>
  intro i s hk hi I B f
  have y:Same H (upd H d (.dK (Xi (ps.take i)))):=Qd W _
  obtain⟨C,r,p,_⟩:=I.list (y.seq Y)
  have lv:=G.length
  have v:i<vs.length:=Om
  obtain⟨t,c,ev,ep,hT⟩:=G.get (gE v)
  obtain⟨u,hu,ru⟩:=r.get (gE v)
  rw[ev]at ru
  cases ru
  refine Y28 Vv ?_
  rw[Y35 Zt _]
  show wpAny _ A.in1 (pyNext (.ref it) >>= _) _ _ s
  refine jQ (wpAny_pyNext_list_item B p.isList (x:=.ref t) (by simpa using hu) fun D N sb=>?_)
  have O:Inv X pins σ (upd H d (.dK (Xi (ps.take i)))) { s with heap:=D }:=I.turned (t':=s.toks) (fun b o E e=>(sb.2 b E).trans e) f.1 f.2.1 f.2.2.2.1 f.2.2.2.2.1 f.2.2.2.2.2
  obtain⟨aa,r2,⟨ot,U,ct,nt,dt⟩,_⟩:=O.tuple (y.tup hT)
  obtain⟨S,u2,rfl,Q,L⟩:=r2.two
  refine jQ (Y30 ?_)
  refine jQ (wpAny_tryCatch ?_)
  unfold Builtin.Dict.pairItems
  refine jQ (Y40 (T:="tuple") ⟨ot,U,ct⟩ ?_)
  rw[Y22 (by simp)]
  refine jQ (wpAny_seqItems U dt (kQ ?_))
  show wpAny _ _ (holding [S,u2] (dictSet d S u2)) _ _ _
  obtain⟨z,M,kv,n,dd⟩:=Qfs O.hok (Qc (H:=H) (a:=d) (o:=.dK (Xi (ps.take i))))
  have l1:=Qig (ps.take i)
  rw[zZ]at l1
  have P:kv.length<=sizeLine:=by rw[<-n.length];exact z
  refine Y30 (wpAny_dictSet_pairs (hsz:=P) (knd:=Xm X.prog X.w) (k:=c.1) (Qhn Q) dd fun h2 j m=>?_)
  have F:∃q,h2.get? d=some q:=let ⟨q,_,_,hq,_⟩:=j;⟨q,hq⟩
  have l2:=Zo (Xi (ps.take i)) c.1 c.2
  have Z:Inv X pins σ (upd (upd H d (.dK (Xi (ps.take i)))) d (.dK (putK (Xi (ps.take i)) c.1 c.2))) { s with heap:=h2,toks:=s.toks+1 } :=
   We (s:={ s with heap:=D }) O (by rw[Qc];exact True.intro) m F (Quv Om M (n.put _ L) j)
  rw[Qhg,<-Je ep]at Z
  have g:it≠d:=fun e=>by have:=f.1;rw[e,Qc]at this;cases this
  refine kQ ⟨kXd Zt _,?_⟩
  have J:rawInt ((i:Int)+1)=rawInt ((i+1:Nat):Int):=by push_cast;rfl
  rw[J]
  refine ih (i+1) _ Om Om Z (N.at fun o e=>m.extBut _ _ g e) ⟨?_,f.2⟩
  have:=f.1
  rw[Qj g]at this⊢
  exact this
theorem Zm(x:X.calm=true):CallR X (.type "dict") (fun xs H Q=>∃(l:Addr) (vs:List V) (ps:List (Key×V)),xs=[.ref l]/\SqL X.K H l vs/\PairsK X.K H vs ps/\ps.length<sizeLine/\∀d,H d=none->Q (.ref d) (upd H d (.dK (Xi ps)))):=by
 intro pins s σ H xs us Q I rv h
 obtain⟨l,vs,ps,rfl,m,M,S,q⟩:=h
 obtain⟨u,rfl,Y⟩:=rv.one
 cases Y
 refine callType_codes (Q₁:=fun g G=>g=.ref (qa s)/\G={ s with heap:=s.heap.push { cls:=.type "dict",data:=.dict #[] } }) F.kt_called_dict (F.kt_typeCall_dict_1 _) F.entry_dict_init (kt_code_dict_new _ ⟨rfl,rfl⟩) ?_
 rintro g G ⟨rfl,rfl⟩
 have k:H (qa s)=none:=I.hok.fresh (jJ _)
 have p:Inv X pins σ (upd H (qa s) (.dK [])) { s with heap:=s.heap.push { cls:=.type "dict",data:=.dict #[] } }:=I.laid (t':=s.toks) (fun _ _ q=>jW _ q) (jJ _) (Qji s.heap I.big)
 have D:Same H (upd H (qa s) (.dK [])):=Qd k _
 obtain⟨z,O,kv,R,y⟩:=Qfs p.hok (Qc (H:=H) (a:=(qa s)) (o:=.dK []))
 exists y.typeIs,F.args_dict_init_2 _ _,?_
 unfold Builtin.«dict.__init__»
 refine jQ ?_
 unfold Builtin.Dict.selfAndRest
 refine jQ (Y59 y.typeIs ?_)
 show wpAny _ _ (pure ((qa s),[Value.ref l])) _ _ _
 refine kQ ?_
 show wpAny _ _ (Builtin.Dict.updateFrom "dict.__init__" (qa s) (.ref l) [] .none) _ _ _
 unfold Builtin.Dict.updateFrom
 obtain⟨J,r,⟨o,n,e,c,C,B⟩,_⟩:=p.list (D.seq m)
 obtain⟨cls,Z,W,N⟩:=o
 simp only at c C B
 subst c C B
 refine jQ (Y40 (T:="list") ⟨_,e,rfl⟩ ?_)
 rw[Y22 Dc]
 refine jQ (Vu (s:={ s with heap:=s.heap.push { cls:=.type "dict",data:=.dict #[] } }) e (by exact I.ok.hd x) fun j f v=>?_)
 have i:Inv X pins σ (upd H (qa s) (.dK [])) { s with heap:=j,toks:=f }:=p.kept v
 rw[Y22 (by rfl)]
 refine jQ (Y58 (jQ ?_))
 obtain⟨E,r2,P,_⟩:=i.list (D.seq m)
 refine Y51 (s:={ s with heap:=j,toks:=f }) P.isList ?_
 refine kQ ⟨kXd Zt _,?_⟩
 have U:Inv X pins σ (upd H (qa s) (.dK [])) { s with heap:=j.push { cls:=.type "list_iterator",data:=.fields #[.ref l,.int 0 0] },toks:=f }:=i.kept (t':=f) fun b o e=>jW _ e
 have w:=i.hok.fresh (a:=j.objs.size) (jJ _)
 refine Qpl (X:=X) (pins:=pins) (σ:=σ) (H:=H) (vs:=vs) (ps:=ps) (A:=X.A.in1) (by exact I.ok.hd x) k m M S (fun s' L=>⟨rfl,.ref (qa s),_,L,rfl,q _ k⟩) ps.length 0 _ Om (wJ _) U ⟨_,yJ _ rfl,rfl,rfl⟩ (i.fpOk (jJ _) w)
theorem Qda:∀{us:List Value} {ss:List Str},us.length=ss.length->(∀(j:Nat) (u:Value),us[j]?=some u->∃x t,ss[j]?=some x/\u=.str x t)->StrsAre us ss
 |[],[],_,_=>.nil
 |[],_::_,e,_=>nomatch e
 |_::_,[],e,_=>nomatch e
 |u::us,x::ss,e,h=>by
  obtain⟨y,t,a,rfl⟩:=h 0 u rfl
  obtain rfl:x=y:=Y5 a
  exact .cons x t (Qda (Nat.succ.inj e) fun j v b=>h (j+1) v b)
theorem Qgg:∀{ss:List Str} {us:List Value},StrsAre us ss->Vals (ss.map V.str) us:=by
 intro ss us h
 induction h with
 |nil=>exact .nil
 |cons=>rename_i a;exact .cons ⟨_,rfl⟩ a
open PySem.W in
theorem Qgh(Z:X.calm=true):CallR X (.builtin "sorted") (fun xs H Q=>∃(d:Addr) (kvs:List (Key×V)) (ss:List Str),xs=[.ref d]/\H d=some (.dK kvs)/\kvs.map (·.1)=ss.map inr/\kvs.length<64 /\
  ∀(D:Addr) (qs:List Str),H D=none->qs.Perm ss->sortedS qs=true->Q (.ref D) (upd H D (.lst (qs.map V.str)))):=by
 intro n s σ H xs us Q I rv h
 obtain⟨d,kvs,ss,rfl,hd,J,aa,q⟩:=h
 obtain⟨u,rfl,ru⟩:=rv.one
 cases ru
 obtain⟨z,lo,vs,p,dd⟩:=Qfs I.hok hd
 obtain⟨o,es,ep,h1,h2,h3,h4⟩:=id dd
 have Y:s.heap.DictAt (Xm X.prog X.w) d vs ep:=⟨o,es,h1,h2,h3,h4⟩
 have lr:=p.length
 have v:(d == sysModules)=false:=lo
 exists"z"
 refine Calls.call_function_entry kind_sorted plain_sorted entry_sorted (args_sorted1 _) ?_
 unfold Builtin.«sorted»
 refine jQ (m:=checkCount "sorted" 1 1 _) (kQ ?_)
 refine jQ (kdu_collect (A:=X.A.in1) (kdl_dict (knd:=Xm X.prog X.w) (kvs:=vs) (ep:=ep) v) (I.ok.hd Z) Y Om fun g F a B c=>?_)
 have hl:a.toList.length=vs.length:=by rw[jXa];exact c.1
 refine jQ (wpAny_newList ?_ (by rw[hl];lia))
 have lk:kvs.length=ss.length:=by
  have:=congrArg List.length J
  rwa [jX,jX]at this
 have C:StrsAre a.toList ss:=by
  refine Qda Om fun j u eu=>?_
  obtain⟨k,x,ek,G⟩:=c.2 j u (by rw[<-jZf];exact eu)
  have r:(vs.map (·.1))[j]?=some k:=by rw[yZ,ek];rfl
  rw[<-Qof p,J,yZ]at r
  cases S:ss[j]? with
  |none=>rw[S]at r;cases r
  |some y=>
   rw[S]at r
   cases r
   obtain⟨t,rfl⟩:=(show ∃t,u=Value.str y t from is_kV G)
   exists y,t,rfl,rfl
 have i:(g.push (seqObj "list" a.toList.toArray 0)).get? g.objs.size=some (seqObj "list" a.toList.toArray 0):=yJ _ rfl
 show wpAny _ _ _ _ _ { s with heap:=g.push (seqObj "list" a.toList.toArray 0),toks:=F }
 refine jQ (Y30 (Y25 slot_list_sort ⟨_,i,rfl⟩ entry_list_sort (list_sort_treeK strKind_oneLt i C.keysOf (fun K M O e=>keyKind_strs (by rw[<-e];exact C)) Om fun l a1 W=>⟨_,rfl,?_⟩) (args_list_sort _)))
 refine kQ ⟨_,rfl,?_⟩
 obtain⟨f,U,R,b3⟩:=sorted_out_str C a1 W
 obtain⟨e,he⟩:=sortedHeap_at (h:=g.push (seqObj "list" a.toList.toArray 0)) (vs:=a.toList) (out:=(arrOf l).map (·.2)) i
 have l5:f.length=ss.length:=R.length_eq
 have N:Inv X n σ H { s with heap:=g,toks:=F }:=I.kept B
 exists .ref g.objs.size,_,N.laid (t':=F) (o:=.lst (f.map V.str)) (fun b ob T=>?_) (jJ _) ⟨by rw[jX];lia,((arrOf l).map (·.2)).toList,e,Qgg U,by rw[Array.toArray_toList];exact he⟩,rfl,q _ f (N.hok.fresh (jJ _)) R b3
 have L:g.get? b=some ob:=T
 have E:=zQ L
 rw[sortedHeap_old (xZ E) (by rw[size_push'];exact kQe E),Heap.get?_push_ne _ _ _ (xZ E)]
 exact L
theorem Qxr{f:Str}{ta:TE}(a:X.K=K)(he:PE X e ta)(b:attributeBase e f X.env (eval e X.env)=eval e X.env):PE X (.Attribute e f pos) (tFld K ta f):=by subst a;exact Yq he b
end L2
namespace Nb
open PySem L2
abbrev sWA:Stmt:=top 21
theorem Qei{f:Str->V}{w:Str}:∀(ws:List Str) (acc:List (Key×V)),(w∈ws\/valV acc (inr w:Key)=some (f w))->valV ((ws.map fun w=>((inr w:Key),f w)).foldl (fun d p=>putK d p.1 p.2) acc) (inr w:Key)=some (f w)
 |[],acc,h=>h.resolve_left (fun z=>nomatch z)
 |a::ws,acc,h=>by
  rw[zX,yXe]
  refine Qei ws _ ?_
  by_cases e:a=w
  .exact .inr (by rw[Kl,e,Y22 rfl])
  .rcases h with h | h
   .exact .inl ((kK.mp h).resolve_left fun z=>e z.symm)
   .exact .inr (by rw[Kl,Y20 (fun z=>e (Y37 z).symm)];exact h)
def endE(B:List BR)(pl:Z7)(w:Str):V:=.int ((look pl w).2+lenB B w (look pl w).1)
def begE(pl:Z7)(w:Str):V:=.int (look pl w).2
theorem Qdb{ps:List (Key×V)}(h:PairsK K H vs ps)(s:Same H H'):PairsK K H' vs ps:=h.imp fun _ _ z=>s.tup z
theorem Qdc{W:Addr}{ps:List (Key×V)}(h:PairsK K H vs ps)(a:H W=some (.lst xs)):PairsK K (upd H W (.lst zs)) vs ps:=h.imp fun _ _ z=>Zn a z
inductive spWA(K:Fg)(C:Addr)(vs:List V)(H:Hp)(Q:VK)(E:XK):Prop|mk(p tk:Addr)(n:Int)(B:List BR)(pl:Z7)(ys:List V)(_:vs=[.ref p,.ref tk])(_:FcAt K C H p n B)(_:BookOk n B)(_:PlanFor n B pl)(_:B.flatMap (gW pl)=[])(_:H tk=some (.lst ys))(_:Jr K H pl ys (wks B))(_:∀(D:Addr) (xs:List V) (H':Hp),Same H H'->H' D=some (.lst xs)->xs.length<=5200->TupK H' xs (B.flatMap (gA B pl))->Q (.ref D) H'):spWA K C vs H Q E
section
variable{w:World}
theorem scWA:FnScope ["facts","taken","ends","begins"] ["facts","taken"] (Qh sWA):=Sc
theorem okWA(F:Fn K mg "wrong_afters" sWA)(M:Mg mg)(T:FcTxt K mg C)(GE:FnOk P w K mg base CX0 1 fE fdE ["self","choice"] (Qge K C))(bE:Binds K fdE ["self","choice"] [])(mE:Meth K C "end_of" fE):Cal P w K mg base 4 "wrong_afters" ["facts","taken"] (spWA K C):=by
 refine Xv F scWA (a:=fun f aC A ap s H vs Q E hr h=>?_)
 obtain⟨p,tk,n,B,u,ys,rfl,ao,bk,ar,hW,ab,ag,q⟩:=h
 obtain⟨dx,lw,lb,lh,ls,la,ds,fs,aF,yh,aD,ya,Z⟩:=id ao
 exists"z"
 have hu:=Z6 1 hr.un
 have bl:=bk.wb.len
 have lT:=Paired.length ag
 have wl:(wks B).length<=B.length:=xQ _ _
 have aE:(B.filter (selW "after")).length<=B.length:=jYa _ _
 have lA:=Paired.length Z.tA
 have aw:B.flatMap (gA B u)=(B.filter (selW "after")).flatMap (gA B u):=Qbu (fun a h=>gA_no (Y69 h)) B
 rw[aw]at q
 refine⟨_,(Qg (Z4 2 scWA.nd (Yg (Zm rfl) rfl M.dict_ Qaz (Qa (Yh ["choice","facts"] [none,some 0] rfl (Xd (pv 1)) (fun _ _ _=>(Z3 0 (show(["choice","facts"]:List Str).Nodup by decide +kernel))) (fun _ _ _=>Zg) (fun _ _ _=>(Yf (Qa (Qs (Wd (K:=K) rfl) (pv 0) Qe) (Qa (Zf (pv 1) T.cl mE GE (hr.mono Dc) bE .nil Jx (Qa (pv 0) Qf)) Qf))))) Qf)))
  (Qg (Z4 3 scWA.nd (Yg (Zm rfl) rfl M.dict_ Qaz (Qa (Yh ["choice"] [none] rfl (Xd (pv 1)) (fun _ _ _=>(Z3 0 Z2)) (fun _ _ _=>Zg) (fun _ _ _=>(Yf (Qa (Qs (Wd (K:=K) rfl) (pv 0) Qe) (Qa (Qs (Wd (K:=K) rfl) (pv 0) Qe) Qf))))) Qf)))
  (Qi (Qx (Yh ["work","other","gap","ends","begins"] [none,none,none,some 2,some 3] rfl (Xd (Yq (pv 0) rfl)) (fun _ _ _=>(Qoc (K:=K) (i:=0) (j:=1) (l:=2) rfl rfl (show(["work","other","gap","ends","begins"]:List Str).Nodup by decide +kernel) rfl rfl rfl rfl rfl rfl)) (fun _ _ _=>(Zh (Ql Qam (Va hu (pv 4) (pv 1) (fun _ _=>rfl)) (Qk Qy (Va hu (pv 3) (pv 0) (fun _ _=>rfl)) (pv 2)) (Qp _)))) (fun _ _ _=>(Yf (Qa Qq (Qa (pv 0) (Qa (pv 1) Qf)))))))))),?_⟩
 exists _,rfl,tk,rfl,⟨_,Qb ab⟩,fun D hD=>?_
 let ai:Nat->St->List V->Hp->Prop:=fun m I N H1=>∃v:Option V,I=[v,some (.ref p)]/\PairsK K H1 N (((wks B).take m).map fun w=>((inr w:Key),endE B u w))/\N.length<=m/\H1 D=some (.lst N)/\Same H H1
 refine Z5 ys (show _=(wks B).length from Om) ai ?_ (fun m I N H1 hm h=>?_) ?_ ?_
 .exact⟨none,rfl,.nil,jJ _,Qc,Qd hD _⟩
 .obtain⟨v,rfl,hY,R,G,s1⟩:=h
  exists ⟨G,Om⟩,s1.seq (Qb ab)
 .rintro m I N H1 x H2 hm ⟨v,rfl,hY,R,G,s1⟩ ⟨rfl,e1⟩
  obtain⟨d,aa,t,rfl,hT⟩:=Xh ag (e1 _ (s1.seq (Qb ab)))
  obtain⟨l,c,aB,ac,b0,b1⟩:=ar.get bk.wb (Zq hW (wks_mem.mp (kY aa)))
  have X:=s1.tup hT
  exists _,rfl,t,_,_,_,rfl,rfl,X,(show atI [V.str d,V.str (look u d).1,V.int (look u d).2] 0=some (.str d)from rfl),?_
  exists _,rfl,p,dx,fs,rfl,s1 _ _ Z.hp,Z.nE,_,rfl,p,t,n,B,d,_,_,l,c,rfl,ao.same s1,X,ac,fun H3 Y=>?_
  exists Z1 2,fun t2 W=>?_
  have U:=Y.trans (Qd W (.tup [.str d,.int ((look u d).2+l)]))
  have L:=U _ _ G
  exists L,_,rfl,?_,by rw[jZ];exact wW R,Qc,fun b o e=>?_
  .rw[Jn aa,yK]
   refine Paired.snoc (Qdc (Qdb hY U) L) ⟨t2,rfl,Zn L ?_⟩
   show SqT K _ t2 [.str d,endE B u d]
   rw[show endE B u d=.int ((look u d).2+l)by unfold endE;rw[Zl bk.wb ac]]
   exact Xb Qc
  .rw[Qj (Qm e hD)];exact U _ _ (s1 _ _ e)
 rintro I N H1 ⟨v,rfl,hY,R,G,s1⟩
 rw[yW]at hY
 exists D,N,_,rfl,Qb G,hY,by rw[jX];lia,fun d1 az=>?_
 have s2:=Qd az (.dK (Xi ((wks B).map fun w=>((inr w:Key),endE B u w))))
 have ad:=s1.trans s2
 have S:=ad _ _ ab
 exists _,rfl,tk,rfl,⟨_,Qb S⟩,fun D2 an=>?_
 let ak:Nat->St->List V->Hp->Prop:=fun m I N H3=>∃v:Option V,I=[v]/\PairsK K H3 N (((wks B).take m).map fun w=>((inr w:Key),begE u w))/\N.length<=m/\H3 D2=some (.lst N)/\Same (upd H1 d1 (.dK (Xi ((wks B).map fun w=>((inr w:Key),endE B u w))))) H3
 refine Z5 ys (show _=(wks B).length from Om) ak ?_ (fun m I N H3 hm h=>?_) ?_ ?_
 .exact⟨none,rfl,.nil,jJ _,Qc,Qd an _⟩
 .obtain⟨v,rfl,hY,R,G,Y⟩:=h
  exists ⟨G,Om⟩,Y.seq (Qb S)
 .rintro m I N H3 x H4 hm ⟨v,rfl,hY,R,G,Y⟩ ⟨rfl,e1⟩
  obtain⟨d,aa,t,rfl,hT⟩:=Xh ag (e1 _ (Y.seq (Qb S)))
  have X:=Y.tup (ad.tup hT)
  exists _,rfl,t,_,_,_,rfl,rfl,X,(show atI [V.str d,V.str (look u d).1,V.int (look u d).2] 0=some (.str d)from rfl),?_
  exists _,rfl,t,_,_,_,rfl,rfl,X,(show atI [V.str d,V.str (look u d).1,V.int (look u d).2] 2=some (.int (look u d).2)from rfl),?_
  exists Z1 2,fun t2 W=>?_
  have U:=Qd W (.tup [.str d,.int (look u d).2])
  have L:=U _ _ G
  exists L,_,rfl,?_,by rw[jZ];exact wW R,Qc,fun b o e=>?_
  .rw[Jn aa,yK]
   exact Paired.snoc (Qdc (Qdb hY U) L) ⟨t2,rfl,Zn L (Xb Qc)⟩
  .rw[Qj (Qm e an)];exact U _ _ (Y _ _ e)
 rintro I av H3 ⟨v,rfl,am,aG,ay,Y⟩
 rw[yW]at am
 exists D2,av,_,rfl,Qb ay,am,by rw[jX];lia,fun d2 aA=>?_
 have U:=Qd aA (.dK (Xi ((wks B).map fun w=>((inr w:Key),begE u w))))
 have sA:=(ad.trans Y).trans U
 have h1:=U _ _ (Y _ _ (Qc (H:=H1) (a:=d1) (o:=.dK (Xi ((wks B).map fun w=>((inr w:Key),endE B u w))))))
 have h2:(upd H3 d2 (.dK (Xi ((wks B).map fun w=>((inr w:Key),begE u w))))) d2=some (.dK (Xi ((wks B).map fun w=>((inr w:Key),begE u w)))):=Qc
 generalize upd H3 d2 (.dK (Xi ((wks B).map fun w=>((inr w:Key),begE u w))))=H5 at U sA h1 h2
 exists _,rfl,p,C,dx,fs,_,rfl,sA _ _ Z.hp,T.cl,T.nA,Z.fA,la,rfl,⟨_,Qb (sA _ _ Z.hA)⟩,fun D3 aj=>?_
 let al:Nat->St->List V->Hp->Prop:=fun m I xs H6=>∃v0 v1 v2:Option V,I=[v0,v1,v2,some (.ref d1),some (.ref d2)]/\TupK H6 xs (((B.filter (selW "after")).take m).flatMap (gA B u))/\xs.length<=m/\H6 D3=some (.lst xs)/\Same H5 H6
 refine Zi (n:=(B.filter (selW "after")).length) al ?_ (fun m I xs H6 hm h=>?_) (fun m I xs H6 hm h=>?_) (fun I xs H6 h=>?_) ?_ ?_
 .exact⟨none,none,none,rfl,.nil,jJ _,Qc,Qd aj _⟩
 .obtain⟨v0,v1,v2,rfl,hX,R,G,O⟩:=h
  exists G,Om
 .obtain⟨v0,v1,v2,rfl,hX,R,G,O⟩:=h
  exists ya,ya[m]'Om,(sA.trans O).seq (Qb Z.hA),gE Om
 .obtain⟨v0,v1,v2,rfl,hX,R,G,O⟩:=h
  exists ya,(sA.trans O).seq (Qb Z.hA),Om
 .rintro m I xs H6 x H7 hm ⟨v0,v1,v2,rfl,hX,R,G,O⟩ ⟨rfl,e1⟩
  obtain⟨r',ae,t,rfl,hT⟩:=Xh Z.tA (e1 _ ((sA.trans O).seq (Qb Z.hA)))
  have ah:=zV.mp (kY ae)
  obtain⟨d,J,g,rfl⟩:=Qlr (kZ ah.2)
  have ax:SqT K _ t [.str d,.str J,.int g]:=(sA.trans O).tup hT
  have au:d∈wks B:=wks_mem.mpr (bk.wb.ref _ ah.1 d (by show d∈[d,J];exact jY))
  have aq:J∈wks B:=wks_mem.mpr (bk.wb.ref _ ah.1 J (by show J∈[d,J];exact kJ _ jY))
  have g1:=DGet.k (k:=inr J) (O _ _ h2)
  have g2:=DGet.k (k:=inr d) (O _ _ h1)
  rw[show valV (Xi ((wks B).map fun w=>((inr w:Key),begE u w))) (inr J)=some (begE u J)from Qei (f:=begE u) (wks B) [] (.inl aq)]at g1
  rw[show valV (Xi ((wks B).map fun w=>((inr w:Key),endE B u w))) (inr d)=some (endE B u d)from Qei (f:=endE B u) (wks B) [] (.inl au)]at g2
  exists t,_,rfl,ax,rfl,_,_,rfl,_,_,rfl,_,_,rfl,rfl,?_
  exists _,rfl,_,rfl,d2,_,rfl,g1,_,rfl,_,rfl,d1,_,rfl,g2,_,rfl,_,_,rfl,rfl,_,_,rfl,rfl,_,rfl,?_
  have eg:gA B u (.after d J g)=if (look u J).2-(look u d).2-lenB B d (look u d).1<g then[[inr ("after":Str),inr d,inr J]]else[]:=rfl
  refine ite2 (fun y=>?_) (fun y=>?_)
  .have y':(look u J).2<(look u d).2+lenB B d (look u d).1+g:=kZ y
   exists _,rfl,_,rfl,Z1 3,fun t2 W=>?_
   have s7:=Qd W (.tup [.str "after",.str d,.str J])
   have af:=s7 _ _ G
   exists af,_,_,_,rfl,?_,by rw[jZ];exact wW R,Qc,fun b o e=>?_
   .rw[Qeg _ ae,eg,Y22 Om]
    exact Paired.snoc ((hX.same s7).updL af) ⟨t2,rfl,by rw[Qj (Ym Qc af (by intro z;cases z))];exact Qc⟩
   .rw[Qj (Qm e aj)];exact s7 _ _ (O _ _ e)
  .have y':¬(look u J).2<(look u d).2+lenB B d (look u d).1+g:=fun z=>y (yX z)
   exists _,_,_,rfl,?_,Om,G,O
   rw[Qeg _ ae,eg,Y20 Om,xV]
   exact hX
 .rintro I xs H6 ⟨v0,v1,v2,rfl,hX,R,G,O⟩
  rw[yW]at hX
  exact q D3 xs H6 (sA.trans O) G Om hX
abbrev sIW:Stmt:=top 8
abbrev sIP:Stmt:=top 9
abbrev Qtn:Stmt:=top 17
abbrev sWW:Stmt:=top 18
inductive spIW(K:Fg)(vs:List V)(H:Hp)(Q:VK)(E:XK):Prop|mk(i:Int)(_:vs=[.int i])(_:Q (.bl true) H):spIW K vs H Q E
def spIP(K:Fg):Sp:=fun vs H Q _=>(vs=[.non]/\Q (.bl false) H)\/∃(t:Addr) (a b:V),vs=[.ref t]/\SqT K H t [a,b]/\Q (.bl true) H
inductive Qvf(K:Fg)(C:Addr)(vs:List V)(H:Hp)(Q:VK)(E:XK):Prop|mk(p:Addr)(n:Int)(B:List BR)(w:Str)(_:FcAt K C H p n B)(_:((vs=[.ref p,.str w,.non]/\∀H',Same H H'->Q (.bl false) H')\/∃(t:Addr) (v:Str) (b l c:Int),vs=[.ref p,.str w,.ref t]/\SqT K H t [.str v,.int b]/\BR.way w v l c∈B/\0<=b/\b+l<=n/\∀H',Same H H'->Q (.bl true) H')):Qvf K C vs H Q E
def noK(pl:Z7)(w:Str):Bool:=!hasK pl w
theorem gW_eq(pl:Z7):∀B:List BR,B.flatMap (gW pl)=((wks B).filter (noK pl)).map fun w=>[(inr ("work":Str):Key),inr w]
 |[]=>rfl
 |r::B=>by
  rw[jYf,gW_eq pl B]
  cases r with
  |work w=>
   show(if hasK pl w=true then[]else[[(inr ("work":Str):Key),inr w]])++_=((w::wks B).filter (noK pl)).map _
   cases e:hasK pl w with
   |true=>rw[Y22 rfl,wK (by unfold noK;rw[e];decide)];rfl
   |false=>rw[Y20 Dc,jQe (by unfold noK;rw[e];rfl)];rfl
  |_=>rfl
theorem Qto(b:List Str):(b.map V.str).all Vm=true:=jYc.mpr fun v a=>by
 obtain⟨w,_,rfl⟩:=zK.mp a
 rfl
theorem Qxs{w:Str}(h:w∈ws):inV (.str w) (ws.map V.str)=true:=jXe.mpr ⟨.str w,zK.mpr ⟨w,h,rfl⟩,by
 show(w == w)=true
 exact beq_self_eq_true w⟩
theorem Qtp{kvs:List (Key×V)}{w:Str}{b:Int}(g:Paired (fun(p:Key×V) (q:Str×Str×Int)=>p.1=inr q.1/\∃t,p.2=.ref t/\SqT K H t [.str q.2.1,.int q.2.2]) kvs pl)(nd:(pl.map (·.1)).Nodup)(n:(w,v,b)∈pl):∃t,valV kvs (inr w)=some (.ref t)/\SqT K H t [.str v,.int b]:=by
 obtain⟨i,m⟩:=jQa.mp n
 obtain⟨⟨k,x⟩,ex,j,t,l,h⟩:=Vf g m
 have f:k=inr w:=j
 have d:x=.ref t:=l
 subst f d
 have c:(kvs.map (·.1)).Nodup:=by
  rw[Ja g]
  exact List.Pairwise.map inr (fun a b (hab:a≠b) e=>hab (Y37 e)) nd
 exists t,Qjn c ex,h
inductive spWW(K:Fg)(C:Addr)(vs:List V)(H:Hp)(Q:VK)(E:XK):Prop|mk(p P:Addr)(n:Int)(B:List BR)(pl:Z7)(_:vs=[.ref p,.ref P])(_:FcAt K C H p n B)(_:BookOk n B)(_:PlanAt K H P pl)(_:PlanFor n B pl)(_:pl.length<64)(_:∀(D:Addr) (xs:List V) (H':Hp),Same H H'->H' D=some (.lst xs)->xs.length<=5200->TupK H' xs (B.flatMap (gW pl))->Q (.ref D) H'):spWW K C vs H Q E
theorem scIW:FnScope ["thing"] ["thing"] (Qh sIW):=Sc
theorem okIW(F:Fn K mg "is_whole" sIW)(M:Mg mg):Cal P w K mg base 1 "is_whole" ["thing"] (spIW K):=by
 refine Xv F scIW (a:=fun f b A a s H c Q E d h=>?_)
 obtain⟨i,rfl,q⟩:=h
 exists _,(Qi (Qx (Vk (Qr Vw rfl M.isinstance Ya (Qa (pv 0) (Qa (Qhk M.int_ Qnr) Qf))) (Ws (Quo (Qr Vw rfl M.isinstance Ya (Qa (pv 0) (Qa (Qhk M.bool_ Qns) Qf)))))))),?_
 exists _,rfl,_,_,_,rfl,.int,rfl,_,rfl,_,rfl,_,_,_,rfl,.bool,rfl,_,rfl,q
theorem scIP:FnScope ["thing"] ["thing"] (Qh sIP):=Sc
theorem okIP(F:Fn K mg "is_pair" sIP)(M:Mg mg):Cal P w K mg base 1 "is_pair" ["thing"] (spIP K):=by
 refine Xv F scIP (fun _ _ _ _ _ _=>bind1 (fun _=>rfl)) (fun e H Q E h=>?_) (fun f g A c s H e Q E i h=>?_)
 .rcases h with⟨rfl,_⟩ | ⟨t,a,b,rfl,_⟩<;>rfl
 exists _,(Qi (Qx (Vk (Qr Vw rfl M.isinstance Ya (Qa (pv 0) (Qa (Qhk M.tuple_ Kj) Qf))) (Ws (Jg Ye (Qr Qu rfl M.len Xr (Qa (pv 0) Qf)) Qe (Qp _)))))),?_
 rcases h with⟨rfl,q⟩ | ⟨t,a,b,rfl,d,q⟩
 .exact⟨_,rfl,_,_,_,rfl,.tuple,rfl,_,rfl,q⟩
 .exact⟨_,rfl,_,_,_,rfl,.tuple,.inl ⟨⟨_,d⟩,rfl⟩,_,rfl,_,rfl,_,_,rfl,.inr d,rfl,q⟩
theorem scTold:FnScope ["facts","work","thing"] ["facts","work","thing"] (Qh Qtn):=Sc
theorem okTold{fY:Addr}{fdY:FuncData}(F:Fn K mg "is_as_told" Qtn)(M:Mg mg)(T:FcTxt K mg C)(x:FnOk P w K mg base CX0 1 fY fdY ["self","work","way"] (Qke K C))(U:Binds K fdY ["self","work","way"] [])(R:Meth K C "is_way" fY)(S:FnOk P w K mg base CX0 1 fL fdL ["self","work","way"] (Qic K C))(G:Binds K fdL ["self","work","way"] [])(I:Meth K C "last_begin" fL)(a:Cal P w K mg base 1 "is_whole" ["thing"] (spIW K))(d:Cal P w K mg base 1 "is_pair" ["thing"] (spIP K)):Cal P w K mg base 2 "is_as_told" ["facts","work","thing"] (Qvf K C):=by
 refine Xv F scTold (fun _ _ _ _ _ _=>Wh (fun _ _ _=>rfl)) (fun D H Q E h=>?_) (fun f z A r s H D Q E m h=>?_)
 .obtain⟨p,n,B,w,_,⟨rfl,_⟩ | ⟨t,v,b,l,c,rfl,_⟩⟩:=h<;>rfl
 refine⟨_,(Qg (Xp (PW.pt (Wy (Vj (Jz (Xk d (m.mono Dc) (Qa (pv 2) Qf)))) (Wy (Vj (Jz (Qr Vw rfl M.isinstance Ya (Qa (Qs Yd (pv 2) Qe) (Qa (Qhk M.str_ Quy) Qf))))) (Kq (Vj (Jz (Zf (pv 0) T.cl R x (m.mono Dc) U .nil Jx (Qa (pv 1) (Qa (Qs Yd (pv 2) Qe) Qf))))))))) (Qi (Qx Qmn)) Qv)
  (Qi (Qx (Vk (Xk a (m.mono Dc) (Qa (Qs Yd (pv 2) Qe) Qf)) (Ws (Qdq Wz Wz Qe (Qs Yd (pv 2) Qe) (Zf (pv 0) T.cl I S (m.mono Dc) G .nil Jx (Qa (pv 1) (Qa (Qs Yd (pv 2) Qe) Qf))))))))),?_⟩
 obtain⟨p,n,B,w,g,⟨rfl,q⟩ | ⟨t,v,b,l,c,rfl,j,e,L,W,q⟩⟩:=h
 .refine⟨_,rfl,.inl ⟨rfl,?_⟩⟩
  exists _,rfl,ite2 (fun _=>ite2 (fun _=>q H (Same.refl _)) (fun y=>Y21 rfl y)) (fun y=>Y21 rfl y)
 obtain⟨u,lw,lb,lh,ls,la,Y,fs,N,X,J,Z,k⟩:=id g
 exists _,rfl,.inr ⟨t,_,_,rfl,j,?_⟩
 exists _,rfl,ite2 (fun y=>nomatch y) (fun _=>?_)
 exists _,rfl,t,_,_,_,rfl,rfl,j,(show atI [V.str v,V.int b] 0=some (.str v)from rfl),_,_,_,rfl,.str,rfl,_,rfl,ite2 (fun y=>nomatch y) (fun _=>?_)
 exists _,rfl,p,u,fs,rfl,k.hp,k.nY,_,rfl,_,rfl,t,_,_,_,rfl,rfl,j,(show atI [V.str v,V.int b] 0=some (.str v)from rfl),?_
 exists p,n,B,w,v,l,c,rfl,g,e,fun H1 o=>?_
 exists _,rfl,ite2 (fun y=>nomatch y) (fun _=>?_)
 have i:=o.tup j
 exists _,rfl,t,_,_,_,rfl,rfl,i,(show atI [V.str v,V.int b] 1=some (.int b)from rfl),b,rfl,_,rfl,ite2 (fun _=>?_) (fun y=>Y21 rfl y)
 exists _,rfl,t,_,_,_,rfl,rfl,i,(show atI [V.str v,V.int b] 1=some (.int b)from rfl),?_
 exists _,_,rfl,rfl,_,rfl,ite2 (fun _=>?_) (fun y=>Y21 (yX L) y)
 exists _,rfl,p,u,fs,rfl,o _ _ k.hp,k.nL,_,rfl,_,rfl,t,_,_,_,rfl,rfl,i,(show atI [V.str v,V.int b] 0=some (.str v)from rfl),p,n,B,w,v,l,c,rfl,g.same o,e,fun H2 O=>⟨_,_,rfl,rfl,?_⟩
 dsimp only
 rw[yX (show b<=n-l by lia)]
 exact q _ (o.trans O)
theorem scWW:FnScope ["facts","plan","wrong"] ["facts","plan"] (Qh sWW):=Sc
theorem okWW(F:Fn K mg "wrong_works" sWW)(M:Mg mg)(T:FcTxt K mg C)(d:Cal P w K mg base 2 "is_as_told" ["facts","work","thing"] (Qvf K C)):Cal P w K mg base 4 "wrong_works" ["facts","plan"] (spWW K C):=by
 refine Xv F scWW (a:=fun f aw A aq s H vs Q E hr h=>?_)
 obtain⟨p,P,n,B,u,rfl,af,bk,hP,ab,ay,q⟩:=h
 obtain⟨dx,lw,lb,lh,ls,la,ds,fs,az,yh,ax,ya,hF⟩:=id af
 exists"z"
 have hu:=Z6 1 hr.un
 have bl:=bk.wb.len
 have wl:(wks B).length<=B.length:=xQ _ _
 have fl:((wks B).filter (noK u)).length<=(wks B).length:=jYa _ _
 have nd:=ab.nd bk.wb
 rw[gW_eq]at q
 refine⟨_,(Qg (Zv (i:=2) ["work","facts","plan"] [none,some 0,some 1] rfl scWW.nd rfl (inl rfl) (Xd (Yq (pv 0) rfl)) (fun _ _ _=>(Z3 0 (show(["work","facts","plan"]:List Str).Nodup by decide +kernel))) (fun _ _ _=>(Zh (Vj (Jz (Xk d (hr.mono Dc) (Qa (pv 1) (Qa (pv 0) (Qa (Qjk hu (pv 2) (pv 0) ⟨rfl,rfl,rfl,rfl⟩) Qf)))))))) (fun _ _ _=>(pv 0)))
  (Qi (Qx (Yh ["work"] [none] rfl (Xd (Qk Kr (pv 2) (Yh ["work","facts"] [none,some 0] rfl (Xd (Qr (Qgh rfl) rfl M.sorted Qnq (Qa (pv 1) Qf))) (fun _ _ _=>(Z3 0 (show(["work","facts"]:List Str).Nodup by decide +kernel))) (fun _ _ _=>(Zh (Ql (Qdw (K:=K) rfl) (pv 0) (Qxr (K:=K) rfl (pv 1) rfl) rfl))) (fun _ _ _=>(pv 0))))) (fun _ _ _=>(Z3 0 Z2)) (fun _ _ _=>Zg) (fun _ _ _=>(Yf (Qa Qq (Qa (pv 0) Qf)))))))),?_⟩
 exists _,rfl,p,C,dx,fs,_,rfl,hF.hp,T.cl,T.nW,hF.fW,lw,rfl,⟨_,Qb hF.hW⟩,fun D hD=>?_
 let ah:Nat->St->List V->Hp->Prop:=fun m g G H1=>∃v:Option V,g=[v,some (.ref p),some (.ref P)]/\G=(((wks B).take m).filter (noK u)).map V.str/\H1 D=some (.lst G)/\Same H H1
 refine Zi (n:=(wks B).length) ah ?_ (fun m g G H1 I h=>?_) (fun m g G H1 I h=>?_) (fun g G H1 h=>?_) ?_ ?_
 .exact⟨none,rfl,rfl,Qc,Qd hD _⟩
 .obtain⟨v,rfl,rfl,a,J⟩:=h
  have:=jYa (noK u) ((wks B).take m)
  rw[zZ]at this
  exists a,by rw[jX];lia
 .obtain⟨v,rfl,rfl,a,J⟩:=h
  exists _,.str (wks B)[m],J.seq (Qb hF.hW),by rw[yZ,gE I];rfl
 .obtain⟨v,rfl,rfl,a,J⟩:=h
  exists _,J.seq (Qb hF.hW),by rw[jX];exact jJ _
 .rintro m g G H1 x H2 I ⟨v,rfl,rfl,a,J⟩ ⟨rfl,e1⟩
  have L:(wks B)[m]?=some (wks B)[m]:=gE I
  have ex:=e1 _ (J.seq (Qb hF.hW))
  rw[yZ,L]at ex
  cases ex
  generalize (wks B)[m]=wk at L
  have ad:=PlanAt.same hP J
  obtain⟨r,aa,R⟩:=id ad
  exists _,rfl,_,rfl,_,rfl,P,rfl,.inl ⟨r,.inl aa⟩,_,rfl,_,DGet.k (k:=inr wk) aa,?_
  cases Y:hasK u wk with
  |false=>
   have en:valV r (inr wk)=none:=by
    have:=Qpa (w:=wk) R
    rw[Y]at this
    cases e:valV r (inr wk)with
    |none=>rfl
    |some v=>rw[e]at this;cases this
   rw[en]
   exists p,n,B,wk,af.same J,.inl ⟨rfl,fun U j=>⟨_,rfl,ite2 (fun y=>⟨_,rfl,j _ _ a,_,rfl,?_,Qc,fun b o e=>?_⟩) (fun y=>Y21 rfl y)⟩⟩
   .rw[Jn L,jKa,yK,jQe (by unfold noK;rw[Y];rfl)];rfl
   .rw[Qj (Qm e hD)];exact j _ _ (J _ _ e)
  |true=>
   obtain⟨l,c,ak,ap,b0,b1⟩:=ab.get bk.wb Y
   obtain⟨t,en,hT⟩:=Qtp R nd ak
   rw[en]
   exists p,n,B,wk,af.same J,.inr ⟨t,_,_,l,c,rfl,hT,ap,b0,b1,fun U j=>⟨_,rfl,ite2 (fun y=>nomatch y) (fun y=>⟨_,rfl,?_,j _ _ a,J.trans j⟩)⟩⟩
   rw[Jn L,jKa,yK,wK (by unfold noK;rw[Y];decide)]
   simp
 rintro g G H1 ⟨v,rfl,rfl,a,J⟩
 rw[yW]at a
 have ad:=PlanAt.same hP J
 obtain⟨r,aa,R⟩:=id ad
 have lk:=Paired.length R
 exists _,rfl,_,rfl,P,r,u.map (·.1),rfl,aa,Ja R,Om,fun S N hS hq _=>?_
 have s2:=Qd hS (.lst (N.map V.str))
 have ac:=J.trans s2
 have lq:N.length=u.length:=by rw[hq.length_eq,jX]
 have O:(upd H1 S (.lst (N.map V.str))) S=some (.lst (N.map V.str)):=Qc
 have an:=s2 _ _ a
 generalize upd H1 S (.lst (N.map V.str))=H2 at s2 ac O an
 have qw:∀x∈N,x∈wks B:=fun x hx=>by
  have:=hq.mem_iff.mp hx
  exact(zV.mp (ab.keys.mem_iff.mp this)).1
 exists S,rfl,⟨_,Qb O⟩,fun D2 aj=>?_
 let ag:Nat->St->List V->Hp->Prop:=fun m g G U=>∃v:Option V,g=[v,some (.ref p)]/\G=[]/\U D2=some (.lst G)/\Same H2 U
 refine Zi (n:=N.length) ag ?_ (fun m g G U I h=>?_) (fun m g G U I h=>?_) (fun g G U h=>?_) ?_ ?_
 .exact⟨none,rfl,rfl,Qc,Qd aj _⟩
 .obtain⟨v,rfl,rfl,a,j⟩:=h
  exists a,Dc
 .obtain⟨v,rfl,rfl,a,j⟩:=h
  exists _,.str N[m],j.seq (Qb O),by rw[yZ,gE I];rfl
 .obtain⟨v,rfl,rfl,a,j⟩:=h
  exists _,j.seq (Qb O),by rw[jX];exact jJ _
 .rintro m g G U x H4 I ⟨v,rfl,rfl,a,j⟩ ⟨rfl,e1⟩
  have L:N[m]?=some N[m]:=gE I
  have ex:=e1 _ (j.seq (Qb O))
  rw[yZ,L]at ex
  cases ex
  have al:=qw _ (kY L)
  generalize N[m]=wk at L al
  have am:=ac.trans j
  exists _,rfl,_,rfl,p,C,dx,fs,_,rfl,am _ _ hF.hp,T.cl,T.nW,hF.fW,lw,_,rfl,.inl (am.seq (Qb hF.hW)),rfl,Qto _,_,rfl,ite2 (fun y=>?_) (fun y=>⟨_,rfl,rfl,a,j⟩)
  have y':(!inV (.str wk) ((wks B).map V.str))=true:=y
  rw[Qxs al]at y'
  exact nomatch y'
 rintro g G U ⟨v,rfl,rfl,ar,j⟩
 exists D,D2,_,_,rfl,rfl,j _ _ an,ar,?_,fun W au=>?_
 .rw[jX,kJb];lia
 rw[xV]
 have s4:=Qd au (.lst (((wks B).filter (noK u)).map V.str))
 have X:(upd U W (.lst (((wks B).filter (noK u)).map V.str))) W=some (.lst (((wks B).filter (noK u)).map V.str)):=Qc
 have sA:=(ac.trans j).trans s4
 generalize upd U W (.lst (((wks B).filter (noK u)).map V.str))=H4 at s4 X sA
 exists W,rfl,⟨_,Qb X⟩,fun D3 ai=>?_
 let ao:Nat->St->List V->Hp->Prop:=fun m g xs H5=>∃v:Option V,g=[v]/\TupK H5 xs ((((wks B).filter (noK u)).take m).map fun w=>[(inr ("work":Str):Key),inr w])/\xs.length<=m/\H5 D3=some (.lst xs)/\Same H4 H5
 refine Zi (n:=((wks B).filter (noK u)).length) ao ?_ (fun m g xs H5 I h=>?_) (fun m g xs H5 I h=>?_) (fun g xs H5 h=>?_) ?_ ?_
 .exact⟨none,rfl,.nil,jJ _,Qc,Qd ai _⟩
 .obtain⟨v,rfl,hX,hl,a,Z⟩:=h
  exists a,Om
 .obtain⟨v,rfl,hX,hl,a,Z⟩:=h
  exists _,.str ((wks B).filter (noK u))[m],Z.seq (Qb X),by rw[yZ,gE I];rfl
 .obtain⟨v,rfl,hX,hl,a,Z⟩:=h
  exists _,Z.seq (Qb X),by rw[jX];exact jJ _
 .rintro m g xs H5 x H6 I ⟨v,rfl,hX,hl,a,Z⟩ ⟨rfl,e1⟩
  have L:((wks B).filter (noK u))[m]?=some ((wks B).filter (noK u))[m]:=gE I
  have ex:=e1 _ (Z.seq (Qb X))
  rw[yZ,L]at ex
  cases ex
  generalize ((wks B).filter (noK u))[m]=wk at L
  exists _,rfl,Z1 2,fun t2 av=>?_
  have s7:=Qd av (.tup [.str "work",.str wk])
  have ae:=s7 _ _ a
  exists ae,_,rfl,?_,by rw[jZ];exact wW hl,Qc,fun b o e=>?_
  .rw[Jn L,yK]
   exact Paired.snoc ((hX.same s7).updL ae) ⟨t2,rfl,by rw[Qj (Ym Qc ae (by intro z;cases z))];exact Qc⟩
  .rw[Qj (Qm e ai)];exact s7 _ _ (Z _ _ e)
 .rintro g xs H5 ⟨v,rfl,hX,hl,a,Z⟩
  rw[yW]at hX
  exact q D3 xs H5 (sA.trans Z) a Om hX
abbrev Qej:Stmt:=top 22
theorem Yc(e:DictEntry)(l:List DictEntry)(x:Str)(t:Tok)(h:e.key=.str x t)(s:Str):PySem.findBy PySem.Value.isStrOf ⟨e::l⟩ s=if s=x then some e.val else PySem.findBy PySem.Value.isStrOf ⟨l⟩ s:=by
 unfold PySem.findBy
 rw[List.find?_toArray,List.find?_toArray,kQc]
 by_cases a:s=x
 .subst a
  rw[Y22 rfl,h]
  have:PySem.Value.isStrOf s (.str s t)=true:=by simp[PySem.Value.isStrOf]
  rw[this]
  rfl
 .rw[Y20 a,h]
  have:PySem.Value.isStrOf s (.str x t)=false:=by simp[PySem.Value.isStrOf];exact fun z=>a z.symm
  rw[this]
theorem Qpm{es:Array DictEntry}{m:Nat}{h1 h2 h3 h4 h5 h6 h7 h8 h9 h10 h11:Int}{t1 j1 t2 j2 t3 j3 t4 j4 t5 j5 t6 j6 t7 j7 t8 j8 t9 j9 t10 j10 t11 j11:Tok}
  (j:mg "NAMES"=some (.ref aN)) (h:K.lookup aN=some ⟨.type "dict",none,.dict es m,#[]⟩) (o:PySem.W.KeysLit w.params es.toList) (e:(aN == sysModules)=false) (i:es=⟨[⟨h1,.str "days" t1,.int 0 j1⟩,⟨h2,.str "bench" t2,.int 1 j2⟩,⟨h3,.str "shut" t3,.int 1 j3⟩,⟨h4,.str "store" t4,.int 1 j4⟩,⟨h5,.str "work" t5,.int 1 j5⟩,⟨h6,.str "way" t6,.int 2 j6⟩,⟨h7,.str "uses" t7,.int 3 j7⟩,⟨h8,.str "takes" t8,.int 3 j8⟩,⟨h9,.str "gives" t9,.int 3 j9⟩,⟨h10,.str "after" t10,.int 2 j10⟩,⟨h11,.str "late" t11,.int 1 j11⟩]⟩):∃fN,Tab w K mg "NAMES" aN fN/\Qeh fN:=by
 exists _,tab_mk j h o e,fun r=>?_
 have a:∀s:Str,PySem.findBy PySem.Value.isStrOf es s=if s="days" then some (.int 0 j1)else if s="bench" then some (.int 1 j2)else if s="shut" then some (.int 1 j3)else if s="store" then some (.int 1 j4)else if s="work" then some (.int 1 j5)else if s="way" then some (.int 2 j6)else if s="uses" then some (.int 3 j7)else if s="takes" then some (.int 3 j8)else if s="gives" then some (.int 3 j9)else if s="after" then some (.int 2 j10)else if s="late" then some (.int 1 j11)else none:=fun s=>by
  subst i
  rw[Yc _ _ "days" t1 rfl,Yc _ _ "bench" t2 rfl,Yc _ _ "shut" t3 rfl,Yc _ _ "store" t4 rfl,Yc _ _ "work" t5 rfl,Yc _ _ "way" t6 rfl,Yc _ _ "uses" t7 rfl,Yc _ _ "takes" t8 rfl,Yc _ _ "gives" t9 rfl,Yc _ _ "after" t10 rfl,Yc _ _ "late" t11 rfl]
  rfl
 cases r with
 |days n=>exists j1,by rw[a];rw[Y22 (show(BR.days n).word="days" from rfl)];rfl
 |bench b r=>exists j2,by rw[a];rw[Y20 (Sn "bench" "days"),Y22 (show(BR.bench b r).word="bench" from rfl)];rfl
 |shut b f t=>exists j3,by rw[a];rw[Y20 (Sn "shut" "days"),Y20 (Sn "shut" "bench"),Y22 (show(BR.shut b f t).word="shut" from rfl)];rfl
 |store b m f=>exists j4,by rw[a];rw[Y20 (Sn "store" "days"),Y20 (Sn "store" "bench"),Y20 (Sn "store" "shut"),Y22 (show(BR.store b m f).word="store" from rfl)];rfl
 |work w=>exists j5,by rw[a];rw[Y20 (Sn "work" "days"),Y20 (Sn "work" "bench"),Y20 (Sn "work" "shut"),Y20 (Sn "work" "store"),Y22 (show(BR.work w).word="work" from rfl)];rfl
 |way w v l c=>exists j6,by rw[a];rw[Y20 (Sn "way" "days"),Y20 (Sn "way" "bench"),Y20 (Sn "way" "shut"),Y20 (Sn "way" "store"),Y20 (Sn "way" "work"),Y22 (show(BR.way w v l c).word="way" from rfl)];rfl
 |use k w v t m=>match k with
  |0=>exists j7,by rw[a];rw[Y20 (Sn "uses" "days"),Y20 (Sn "uses" "bench"),Y20 (Sn "uses" "shut"),Y20 (Sn "uses" "store"),Y20 (Sn "uses" "work"),Y20 (Sn "uses" "way"),Y22 (show(BR.use 0 w v t m).word="uses" from rfl)];rfl
  |1=>exists j8,by rw[a];rw[Y20 (Sn "takes" "days"),Y20 (Sn "takes" "bench"),Y20 (Sn "takes" "shut"),Y20 (Sn "takes" "store"),Y20 (Sn "takes" "work"),Y20 (Sn "takes" "way"),Y20 (Sn "takes" "uses"),Y22 (show(BR.use 1 w v t m).word="takes" from rfl)];rfl
  |2=>exists j9,by rw[a];rw[Y20 (Sn "gives" "days"),Y20 (Sn "gives" "bench"),Y20 (Sn "gives" "shut"),Y20 (Sn "gives" "store"),Y20 (Sn "gives" "work"),Y20 (Sn "gives" "way"),Y20 (Sn "gives" "uses"),Y20 (Sn "gives" "takes"),Y22 (show(BR.use 2 w v t m).word="gives" from rfl)];rfl
 |after w x g=>exists j10,by rw[a];rw[Y20 (Sn "after" "days"),Y20 (Sn "after" "bench"),Y20 (Sn "after" "shut"),Y20 (Sn "after" "store"),Y20 (Sn "after" "work"),Y20 (Sn "after" "way"),Y20 (Sn "after" "uses"),Y20 (Sn "after" "takes"),Y20 (Sn "after" "gives"),Y22 (show(BR.after w x g).word="after" from rfl)];rfl
 |late w d c=>exists j11,by rw[a];rw[Y20 (Sn "late" "days"),Y20 (Sn "late" "bench"),Y20 (Sn "late" "shut"),Y20 (Sn "late" "store"),Y20 (Sn "late" "work"),Y20 (Sn "late" "way"),Y20 (Sn "late" "uses"),Y20 (Sn "late" "takes"),Y20 (Sn "late" "gives"),Y20 (Sn "late" "after"),Y22 (show(BR.late w d c).word="late" from rfl)];rfl
theorem Qxt{α:Type}[DecidableEq α]:∀{l m:List α},l.Nodup->(∀x∈l,x∈m)->l.length<=m.length
 |[],_,_,_=>wJ _
 |a::l,m,nd,h=>by
  obtain⟨f,d⟩:=kQb.mp nd
  have c:=h a jY
  have:=Qxt (m:=m.erase a) d fun x b=>(List.mem_erase_of_ne (fun e=>f (by rw[<-e];exact b))).mpr (h x (kJ _ b))
  rw[List.length_erase_of_mem c]at this
  have:=List.length_pos_of_mem c
  rw[yQ]
  lia
theorem Qkg(b:WB n B)(h:PlanFor n B pl):pl.length<64:=by
 obtain⟨c,f,e⟩:=b.few
 have:=Qxt (h.nd b) (m:=c) fun x d=>by
  have a:=(zV.mp (h.keys.mem_iff.mp d)).1
  exact e _ (wks_mem.mp a) x (by show x∈[x];exact jY)
 rw[jX]at this
 lia
theorem TupK.app{a b:List V}{ks ls:List (List Key)}(d:TupK H a ks)(c:TupK H b ls):TupK H (a++b) (ks++ls):=by
 unfold TupK at d c⊢
 induction d with
 |nil=>exact c
 |cons z _ ih=>exact .cons z ih
theorem scBroken:FnScope ["book","plan","facts","wrong","taken"] ["book","plan"] (Qh Qej):=Sc
theorem Qtq{fI:Addr}(F:Fn K mg "broken" Qej)(M:Mg mg)(T:FcTxt K mg C)(ah:Mk K C fI)(GI:FnOk P w K mg base CX0 2 fI fdI ["self","book"] (Qia K C))(bI:Binds K fdI ["self","book"] [])(i:Cal P w K mg base 4 "wrong_works" ["facts","plan"] (spWW K C))(a:Cal P w K mg base 1 "choices_taken" ["facts","plan"] (Qph K C))(j:Cal P w K mg base 4 "wrong_rooms" ["facts","taken"] (spWR K C))(c:Cal P w K mg base 4 "wrong_stores" ["facts","taken"] (spWS K C))(g:Cal P w K mg base 4 "wrong_afters" ["facts","taken"] (spWA K C)):Cal P w K mg base 5 "broken" ["book","plan"] (Qte K):=by
 refine Xv F scBroken (a:=fun f aj A ad s H vs Q E W h=>?_)
 obtain⟨d,P,n,us,B,l,rfl,hd,hB,bk,hP,m,q⟩:=h
 exists"z"
 refine⟨_,(Qg (Z4 2 scBroken.nd (Qnb ah GI (W.mono Dc) rfl T.mgC bI .nil Jx (Qa (pv 0) Qf)))
  (Qg (Z4 3 scBroken.nd (Xk i (W.mono Dc) (Qa (pv 2) (Qa (pv 1) Qf))))
  (Qg (Xp (Ql Ye (Qr Qu rfl M.len Xr (Qa (pv 3) Qf)) Qe (Qp _)) (Qg (Z4 4 scBroken.nd (Xk a (W.mono Dc) (Qa (pv 2) (Qa (pv 1) Qf))))
  (Qi (Z4 3 scBroken.nd (Qk Kr (Qk Kr (Xk j (W.mono Dc) (Qa (pv 2) (Qa (pv 4) Qf))) (Xk c (W.mono Dc) (Qa (pv 2) (Qa (pv 4) Qf)))) (Xk g (W.mono Dc) (Qa (pv 2) (Qa (pv 4) Qf))))))) Qv)
  (Qi (Qx (Qdn (Ql Qcj (Qr Qu rfl M.len Xr (Qa (pv 3) Qf)) Qe (Qp _)) (Qs Qn (pv 3) Qe) Jk)))))),?_⟩
 exists _,rfl,fun p J fp ag ai=>?_
 dsimp only[tNil]
 have s1:Same H (upd (upd H J (.own p)) p (.ins C J [])):=(Qd ag _).trans (Qd (by rw[Qj ai.symm];exact fp) _)
 have ab:upd (upd H J (.own p)) p (.ins C J []) p=some (.ins C J []):=Qc
 generalize upd (upd H J (.own p)) p (.ins C J [])=H1 at s1 ab⊢
 exists p,d,J,n,us,B,rfl,ab,s1 _ _ hd,hB.same s1,bk,fun H2 hF fr=>⟨rfl,?_⟩
 have s2:Same H H2:=fun b o e=>fr b o (s1 _ _ e) (Qm e fp)
 exists _,rfl,_,rfl,p,P,n,B,l,rfl,hF,bk,PlanAt.same hP s2,m,Qkg bk.wb m,fun D xs H3 s3 hD hl L=>?_
 have x:=s2.trans s3
 exists _,rfl,_,_,rfl,.inl (Qb hD),rfl,_,rfl,ite2 (fun y=>?_) (fun y=>?_)
 rotate_left
 .have O:dueF n B l=(B.flatMap (gW l)).head?:=by
   unfold dueF
   cases e:B.flatMap (gW l)with
   |nil=>
    rw[e]at L
    cases L
    exact Y21 rfl y
   |cons k r=>rfl
  generalize B.flatMap (gW l)=ks at O L
  exists _,rfl,_,_,rfl,.inl (Qb hD),_,_,rfl,rfl,_,rfl,ite2 (fun y=>?_) (fun y=>?_)
  .cases L with
   |nil=>exact nomatch y
   |cons z zs=>
    obtain⟨t,rfl,ht⟩:=z
    exists _,rfl,D,_,_,_,rfl,rfl,Qb hD,(show atI (V.ref t::_) ((0:Nat):Int)=some (V.ref t)from Qat rfl),q (.ref t) H3 x (by rw[O];exact⟨t,rfl,ht⟩)
  .cases L with
   |nil=>exact q .non H3 x (by rw[O];rfl)
   |cons z zs=>exact Y21 (yX (by rw[yQ];lia)) y
 have X:B.flatMap (gW l)=[]:=by
  cases e:B.flatMap (gW l)with
  |nil=>rfl
  |cons k r=>
   rw[e]at L
   cases L
   exact nomatch y
 have aa:=hF.same s3
 exists _,rfl,_,rfl,p,P,n,B,l,rfl,aa,bk,PlanAt.same hP x,m,X,fun tk Z H4 s4 R ac=>?_
 have N:=aa.same s4
 exists _,rfl,_,rfl,p,tk,n,B,l,Z,rfl,N,bk,m,X,R,ac,fun D1 v H5 U h1 l1 t1=>?_
 have I:Jr K H5 l Z (wks B):=Paired.mapP ac fun _ _ ⟨t,e,z⟩=>⟨t,e,U.tup z⟩
 exists _,rfl,_,rfl,p,tk,n,B,l,Z,rfl,N.same U,bk,m,X,U _ _ R,I,fun D2 u H6 s6 h2 l2 t2=>?_
 exists D1,D2,v,u,rfl,rfl,s6 _ _ h1,h2,Om,fun W1 af=>?_
 have s7:=Qd af (.lst (v++u))
 have h7:(upd H6 W1 (.lst (v++u))) W1=some (.lst (v++u)):=Qc
 have t7:=(TupK.app (t1.same s6) t2).same s7
 generalize upd H6 W1 (.lst (v++u))=H7 at s7 h7 t7
 have G:=s6.trans s7
 have Y:Jr K H7 l Z (wks B):=Paired.mapP I fun _ _ ⟨t,e,z⟩=>⟨t,e,G.tup z⟩
 exists _,rfl,_,rfl,p,tk,n,B,l,Z,rfl,(N.same U).same G,bk,m,X,G _ _ (U _ _ R),Y,fun D3 S H8 s8 h3 l3 t3=>?_
 exists W1,D3,v++u,S,rfl,rfl,s8 _ _ h7,h3,by rw[jZ];lia,fun W2 ae=>?_
 have s9:=Qd ae (.lst (v++u++S))
 have h9:(upd H8 W2 (.lst (v++u++S))) W2=some (.lst (v++u++S)):=Qc
 have t9:=(TupK.app (t7.same s8) t3).same s9
 generalize upd H8 W2 (.lst (v++u++S))=H9 at s9 h9 t9
 have sA:Same H H9:=((((x.trans s4).trans U).trans G).trans s8).trans s9
 have O:dueF n B l=(B.flatMap (gR n B l)++B.flatMap (gS n B l)++B.flatMap (gA B l)).head?:=by
  unfold dueF
  rw[X,yXf,xY]
 generalize v++u++S=xs at h9 t9
 generalize B.flatMap (gR n B l)++B.flatMap (gS n B l)++B.flatMap (gA B l)=ks at O t9
 exists _,rfl,_,_,rfl,.inl (Qb h9),_,_,rfl,rfl,_,rfl,ite2 (fun y=>?_) (fun y=>?_)
 .cases t9 with
  |nil=>exact nomatch y
  |cons z zs=>
   obtain⟨t,rfl,ht⟩:=z
   exists _,rfl,W2,_,_,_,rfl,rfl,Qb h9,(show atI (V.ref t::_) ((0:Nat):Int)=some (V.ref t)from Qat rfl),q (.ref t) H9 sA (by rw[O];exact⟨t,rfl,ht⟩)
 .cases t9 with
  |nil=>exact q .non H9 sA (by rw[O];rfl)
  |cons z zs=>exact Y21 (yX (by rw[yQ];lia)) y
end
end Nb
namespace L2
open PySem PySem.Spec PyProof.Rows PySem.SeqAt
theorem Qtr{v:V}(h:Vm v=true):eqV v v=true:=by
 cases v with
 |non=>rfl
 |bl b=>exact beq_self_eq_true b
 |int i=>exact beq_self_eq_true i
 |str x=>exact beq_self_eq_true x
 |_=>exact nomatch h
open PySem.W in
inductive SmD (K:Fg) (H:Hp):Nat->V->V->Prop
 |flat {n v:_}:Vm v=true->SmD K H n v v
 |tup {n a b xs ys:_}:SqT K H a xs->SqT K H b ys->xs.length=ys.length->(∀(i:Nat) x y,xs[i]?=some x->ys[i]?=some y->SmD K H n x y)->SmD K H (n+1) (.ref a) (.ref b)
 |lst {n a b xs ys:_}:SqL K H a xs->SqL K H b ys->xs.length=ys.length->(∀(i:Nat) x y,xs[i]?=some x->ys[i]?=some y->SmD K H n x y)->SmD K H (n+1) (.ref a) (.ref b)
theorem Qxu{n:Nat}{x:V}(h:SmD X.K H n x y):∀{A:Around} {u v:Value},A.units+n<cLine->Inv X pins σ H s->RelV x u->RelV y v ->
  EqAt A s u v true/\(∀a c,u=.ref a->v=.ref c->RcAt A s u v true/\RcNeAt A s u v false):=by
 induction h with
 |@flat n x hf=>
  intro A u v U I l N
  have:=Qne (A:=A) (s:=s) l N hf hf
  rw[Qtr hf]at this
  exists this,fun a c e _=>?_
  subst e
  cases x with
  |non=>cases l
  |bl b=>cases l
  |int i=>obtain⟨_,h⟩:=l;cases h
  |str z=>obtain⟨_,h⟩:=l;cases h
  |_=>exact nomatch hf
 |@tup m p q xs ys hq hq' hl hs ih=>
  intro A u v U I l N
  cases l
  cases N
  obtain⟨f,r,pt,_⟩:=I.tuple hq
  obtain⟨d,J,k,_⟩:=I.tuple hq'
  have W:=r.length
  have Y:=J.length
  have key:∀j (L:j<f.toArray.size) (E:j<d.toArray.size),EqAt A.in1 s f.toArray[j] d.toArray[j] ((fun _=>true) j):=fun j L E=>by
   rw[kX]at L E
   have M:j<xs.length:=Om
   have G:j<ys.length:=Om
   obtain⟨P,D,w⟩:=r.get (gE M)
   obtain⟨T,C,t⟩:=J.get (gE G)
   have O:=(ih j _ _ (gE M) (gE G) (A:=A.in1) (by show A.units+1+m<cLine;lia) I w t).1
   have Q:f.toArray[j]=P:=by rw[gE Om]at D;simpa using D
   have S:d.toArray[j]=T:=by rw[gE Om]at C;simpa using C
   rw[Q,S]
   exact O
  have R:((List.range (min f.toArray.size d.toArray.size)).all (fun _=>true)&&f.toArray.size == d.toArray.size)=true:=by
   rw[wV,Vs,kX,kX,beq_iff_eq]
   exists fun _ _=>rfl,Om
  have o:=RcAt.tuples pt k Om key
  have F:=RcNeAt.tuples pt k Om key
  rw[R]at o F
  exists ?_,fun a c _ _=>⟨o,F⟩
  by_cases g:p=q
  .subst g
   exact EqAt.same _
  .exact EqAt.of_refs g o
 |@lst m p q xs ys hq hq' hl hs ih=>
  intro A u v U I l N
  cases l
  cases N
  obtain⟨f,r,pt,_⟩:=I.list hq
  obtain⟨d,J,k,_⟩:=I.list hq'
  have W:=r.length
  have Y:=J.length
  have key:∀j (L:j<f.toArray.size) (E:j<d.toArray.size),EqAt A.in1 s f.toArray[j] d.toArray[j] ((fun _=>true) j):=fun j L E=>by
   rw[kX]at L E
   have M:j<xs.length:=Om
   have G:j<ys.length:=Om
   obtain⟨P,D,w⟩:=r.get (gE M)
   obtain⟨T,C,t⟩:=J.get (gE G)
   have O:=(ih j _ _ (gE M) (gE G) (A:=A.in1) (by show A.units+1+m<cLine;lia) I w t).1
   have Q:f.toArray[j]=P:=by rw[gE Om]at D;simpa using D
   have S:d.toArray[j]=T:=by rw[gE Om]at C;simpa using C
   rw[Q,S]
   exact O
  have B:f.toArray.size=d.toArray.size:=by rw[kX,kX];lia
  have R:((List.range f.toArray.size).all (fun _=>true))=true:=by
   rw[Vs]
   exact fun _ _=>rfl
  have o:=RcAt.lists pt.isList k.isList B Om key
  have F:=RcNeAt.lists pt.isList k.isList B Om key
  rw[R]at o F
  exists ?_,fun a c _ _=>⟨o,F⟩
  by_cases g:p=q
  .subst g
   exact EqAt.same _
  .exact EqAt.of_refs g o
theorem Qxv{n:Nat}(e:X.A.units+n<cLine):OpR X (compareOp .NotEq) (fun x y H Q=>∃a b,x=.ref a/\y=.ref b/\SmD X.K H n x y/\Q (.bl false) H):=by
 intro c s i H x y v u Q I d f h
 obtain⟨a,b,rfl,rfl,g,q⟩:=h
 cases d
 cases f
 exact((Qxu g (A:=X.A) (u:=.ref a) (v:=.ref b) e I rfl rfl).2 a b rfl rfl).2 _ _ _ _ ⟨.bl false,H,I,rfl,q⟩
theorem Qxw{n:Nat}(C:X.K=K)(D:X.A.units+n<cLine):OpR X (compareOp .Eq) (fun x y H Q=>∃(a b:Addr) (ks ls:List Key),x=.ref a/\y=.ref b/\SqT K H a (ks.map kV)/\SqT K H b (ls.map kV)/\∀c:Bool,(c=true↔ks=ls)->Q (.bl c) H):=by
 subst C
 intro f s E H x y v u Q I o t h
 obtain⟨a,b,ks,ls,rfl,rfl,B,j,q⟩:=h
 cases o
 cases t
 obtain⟨p,r,pt,_⟩:=I.tuple B
 obtain⟨e,g,d,_⟩:=I.tuple j
 have k:=r.length
 have w:=g.length
 rw[jX]at k w
 have key:=Qhs (A:=X.A.in1) (s:=s) r g
 refine RcAt.tuples pt d Om key _ _ _ _ ⟨.bl _,H,I,rfl,q _ ?_⟩
 rw[wV,Vs,kX,kX,beq_iff_eq]
 constructor
 .rintro⟨l,F⟩
  refine Qhj Om fun i x y ex m=>?_
  have G:=(jK.mp ex).1
  have:=kZ (l i Om)
  rw[ex,m]at this
  exact Y5 this
 .intro z
  subst z
  exists fun i _=>yX rfl,Om
section
variable{w:World}{es:Array DictEntry}
theorem Qgi{Q:VP}(f:(d == sysModules)=false)(c:s.heap.get? d=some o)(g:o.ExactDict)(a:o.data=.dict es ep)
  (e:Q (.ref (qa s)) { s with heap:=s.heap.push { cls:=.type "dict_keyiterator",data:=.fields #[.ref d,.int 0 0,.int es.size 0,.int ep 0] } }) :
  qe prog w A (pyIter (.ref d)) Q E s:=by
 have b:s.TypeIs (.ref d) "dict":=⟨o,c,g.1⟩
 refine wpAny_pyIter_slot b F.slot_dict_iter (Y25 F.slot_dict_iter b F.entry_dict_iter ?_ (F.args_dict_iter_1 _))
 unfold Builtin.«dict.__iter__»
 refine jQ ?_
 unfold Builtin.Dict.dictSlotNone
 refine jQ (Y59 b ?_)
 show wpAny _ _ (pure (Value.ref d)) _ _ s
 refine kQ ?_
 show wpAny _ _ (Builtin.Dict.showsAll d >>= _) _ _ s
 unfold Builtin.Dict.showsAll
 rw[Y20 (by rw[f];exact yY)]
 refine jQ (kQ ?_)
 refine jQ (wpAny_dictEntries c a ?_)
 refine jQ (wpAny_dictEpoch c a ?_)
 refine jQ (Y26 (kQ ⟨_,rfl,"dict_keyiterator",_,⟨_,yJ _ rfl,rfl⟩,F.slot_dict_keyiterator_next.lookup,?_⟩))
 simpa[rawInt]using e
theorem Wn(a:s.heap.IsKeyIter it d i es.size ep)(g:s.heap.get? d=some o)(c:o.data=.dict es ep)(f:i<es.size)
  (l:∀h',h'.IsKeyIter it d (i+1) es.size ep->Heap.SameBut it s.heap h'->Q (some es[i].key) { s with heap:=h' }) :
  qe prog w A (pyNext (.ref it)) Q E s:=by
 obtain⟨n,k,m,j⟩:=id a
 unfold pyNext
 refine jQ (Y55 (wpAny_callSpecial?_slot (name:=Str.ofString "__next__") a.typeIs Y48
  (Y25 Y48 a.typeIs F.entry_dict_keyiterator_next ?_ (F.args_dict_keyiterator_next_1 _))))
 refine jQ (kQ ?_)
 refine jQ ?_
 refine jQ ?_
 first | refine jQ (Y46 a.typeIs (kQ ?_)) | refine jQ (Y54 a.typeIs (kQ ?_))
 refine jQ (wpAny_fieldsOf k j ?_)
 have e:Builtin.Dict_items.ownsTuple "dict_keyiterator"=false:=Dc
 simp only[e,jJf,if_false]
 show wpAny _ _ (if (Value.ref d == Value.none)=true then _ else _) _ _ s
 rw[Y20 (show ¬((Value.ref d == Value.none)=true)from yY)]
 refine jQ (kQ ?_)
 refine jQ (wpAny_dictEntries g c ?_)
 rw[Y20 (by simp)]
 refine jQ (kQ ?_)
 refine jQ (wpAny_dictEpoch g c ?_)
 rw[Y20 (by simp)]
 refine kQ ?_
 simp only[show ¬((i:Int)<0)from by lia,if_false,jYe,kKd f]
 refine jQ ?_
 first | refine jQ (Y46 a.typeIs (kQ ?_)) | refine jQ (Y54 a.typeIs (kQ ?_))
 refine jQ (wpAny_isOneOf_keyiter a.typeIs ?_)
 show wpAny _ _ (setField (.ref it) 1 (rawInt ((i:Int)+1)) >>= _) _ _ s
 refine jQ (Y53 k j (by simp) ?_)
 have b:(s.heap.update it (Obj.mapFields (·.setIfInBounds 1 (rawInt ((i:Int)+1))))).IsKeyIter it d (i+1) es.size ep :=
  ⟨_,jXf _ k (Y61 (Y42 j _)),(Obj.cls_mapFields ..).trans m,by rw[Y42 j];simp[rawInt]⟩
 refine jQ (Y30 ?_)
 refine jQ (wpAny_isOneOf_keyiter (s:={ s with heap:=s.heap.update it (Obj.mapFields (·.setIfInBounds 1 (rawInt ((i:Int)+1)))) }) b.typeIs ?_)
 show wpAny _ _ (pure es[i].key) _ _ _
 exact kQ (kQ ⟨_,rfl,kQ (l _ b (Y67 ..))⟩)
theorem Qac(p:A.handled=none)(c:s.heap.IsKeyIter it d i es.size ep)(g:s.heap.get? d=some o)(e:o.data=.dict es ep)(j:es.size<=i)
  (n:∀h',Heap.ExtBut it s.heap h'->Q none { s with heap:=h' }):qe prog w A (pyNext (.ref it)) Q E s:=by
 obtain⟨q,l,r,k⟩:=id c
 unfold pyNext
 refine jQ (Y55 (wpAny_callSpecial?_slot (name:=Str.ofString "__next__") c.typeIs Y48
  (Y25 Y48 c.typeIs F.entry_dict_keyiterator_next ?_ (F.args_dict_keyiterator_next_1 _))))
 refine jQ (kQ ?_)
 refine jQ ?_
 refine jQ ?_
 first | refine jQ (Y46 c.typeIs (kQ ?_)) | refine jQ (Y54 c.typeIs (kQ ?_))
 refine jQ (wpAny_fieldsOf l k ?_)
 have f:Builtin.Dict_items.ownsTuple "dict_keyiterator"=false:=Dc
 simp only[f,jJf,if_false]
 show wpAny _ _ (if (Value.ref d == Value.none)=true then _ else _) _ _ s
 rw[Y20 (show ¬((Value.ref d == Value.none)=true)from yY)]
 refine jQ (kQ ?_)
 refine jQ (wpAny_dictEntries g e ?_)
 rw[Y20 (by simp)]
 refine jQ (kQ ?_)
 refine jQ (wpAny_dictEpoch g e ?_)
 rw[Y20 (by simp)]
 refine kQ ?_
 simp only[show ¬((i:Int)<0)from by lia,if_false,jYe,Array.getElem?_eq_none j]
 refine jQ ?_
 first | refine jQ (Y46 c.typeIs (kQ ?_)) | refine jQ (Y54 c.typeIs (kQ ?_))
 show wpAny _ _ (setField (.ref it) 0 .none >>= _) _ _ s
 refine jQ (Y53 l k (by simp) ?_)
 show wpAny _ _ (newExc (.type "StopIteration") [] >>= _) _ _ _
 refine jQ ?_
 simp only[newExc,newTuple]
 refine jQ (Y26 ?_ (by size_fits))
 refine jQ (m:=firstArgMember _ _) (Y32 (a:=Value.none) (by first | rfl | (simp only[firstArgMember];rfl)) ?_)
 refine Y26 ?_ (by size_fits)
 simp only[raiseNew]
 refine jQ (wpAny_handled ?_)
 rw[show A.in1.handled=none from p]
 refine jQ (kQ (wpAny_throw ?_))
 refine jQ (wpAny_isInstance (T:="StopIteration") (b:=true) ⟨_,yJ _ rfl,rfl⟩ isSubtype_stop ?_)
 exact kQ (n _ (((Y67 ..).extBut.push _).push _))
end
theorem Inv.nfT(I:Inv X pins σ H s)(e:H d=some (.dT kvs)):NF X d:=fun o u z=>by
 have:=I.base.frzs d o u z
 rw[e]at this
 cases this
theorem Inv.freezeT(I:Inv X pins σ H s)(e:H d=some (.dT kvs)):∃o,s.heap.get? d=some o/\Inv X pins σ (upd H d (.frz o (.dT kvs))) s:=by
 obtain⟨z,y,c,r,o,i,g,a,b,h,f,j⟩:=(show ObjOk X.prog X.w H s.heap d (.dT kvs)from I.hok d _ e)
 exists o,a,We (t':=s.toks) I (by rw[e];exact True.intro) (Heap.SameBut.refl _ _) ⟨o,a⟩ ⟨a,z,y,c,Paired.mapP r fun p q z=>⟨z.1,?_,z.2.2⟩,o,i,g,a,b,h,f,j⟩
 rw[Qj (Ym z.2.1 e (by intro z;cases z))]
 exact z.2.1
theorem Inv.thawT(I:Inv X pins σ H s)(nf:NF X d)(e:H d=some (.frz o (.dT kvs))):Inv X pins σ (upd H d (.dT kvs)) s:=by
 have g:∀b,H b=none->b≠d:=fun b n z=>by rw[z,e]at n;cases n
 have ok:ObjOk X.prog X.w H s.heap d (.frz o (.dT kvs)):=I.hok d _ e
 obtain⟨_,z,y,h,r,C,L,G,K,D,J,F,A⟩:=ok
 exists I.ok,I.os,I.bare,⟨I.base.keep,I.base.slot,fun b q E n l=>?_,I.base.there,fun b h q=>?_,fun b B u q=>?_,fun b ps q=>?_⟩,I.loc,I.cell,?_,fun x c q=>?_,fun p t=>?_,fun b u q=>?_,I.len
 .have f:=I.base.free b q E n l
  rw[Qj (g b f)];exact f
 .have a:=I.base.tups b h q
  rw[Qj (Ym a e (by intro z;cases z))];exact a
 .have a:=I.base.frzs b B u q
  rw[Qj (fun z=>by subst z;exact nf _ _ q)];exact a
 .obtain⟨m,a⟩:=I.base.tbls b ps q
  exists m,by rw[Qj (Ym a e (by intro z;cases z))];exact a
 .rw[Qj (g _ I.free)];exact I.free
 .have f:=I.freeC x c q
  rw[Qj (g _ f)];exact f
 .obtain⟨v,i,k⟩:=I.pin p t
  exists v,by rw[Qj (g _ i)];exact i,k
 .by_cases j:b=d
  .subst j
   rw[Qc]at q
   cases q
   exists z,y,h,Paired.mapP r fun p q z=>⟨z.1,by rw[Qj (Ym z.2.1 e (by intro z;cases z))];exact z.2.1,z.2.2⟩,C,L,G,K,D,J,F,A
  .rw[Qj j]at q
   exact(I.hok b u q).stay (fun _ _ _ r=>r) (fun c r=>by rw[Qj (Ym r e (by intro z;cases z))];exact r) fun c h r=>by rw[Qj (Ym r e (by intro z;cases z))];exact r
def ItKt(d:Addr)(o:Obj)(kvs:List (List Key×V)):It :=
  ⟨fun i H=>H d=some (.frz o (.dT kvs))/\i<kvs.length,
   fun i H v H'=>H'=H/\∃t k x,v=.ref t/\H t=some (.tup (k.map kV))/\kvs[i]?=some (k,x),
   fun i H=>H d=some (.frz o (.dT kvs))/\kvs.length<=i⟩
theorem Qma{w:World}{es:Array DictEntry}(f:o.data=.dict es ep) :
  Turn P w K tg (ItKt d o kvs) [it] it (fun i h=>h.IsKeyIter it d i es.size ep) where
 mem:=by simp
 obj:=fun i h a c B=>by
  obtain⟨q,e,c1,O⟩:=a
  have U:c=it:=by simpa using B
  subst U
  exists q,e,fun v z=>by rw[O]at z;cases z
 keep:=fun i h A a k=>a.at fun o e=>k it (by simp) o e
 item:=by
  intro X S Q L B i j s σ H E I D a F
  subst S Q L
  obtain⟨Y,hi⟩:=F
  obtain⟨n,z,y,g,r,oo,M,N,u,h2,p,C,h5⟩:=(show ObjOk X.prog X.w H s.heap d (.frz o (.dT kvs))from I.hok d _ Y)
  rw[n]at u
  cases u
  rw[f]at p
  cases p
  have lr:=Paired.length r
  have G:es.size=g.length:=by rw[<-jXa,C,jX]
  obtain⟨R,W,f2,V,J,T⟩:=D it (by simp)
  refine Wn a n f Om fun A m sb=>?_
  have I1:Inv X j σ H { s with heap:=A }:=I.turned (t':=s.toks) (fun b o l e=>(sb.2 b l).trans e) R W V J T
  obtain⟨q,e,c,O⟩:=id m
  have hk:es[i].key=.ref (g[i]).2.1:=by
   have h6:es.toList[i]?=(g.map (entryOfKey (tupleKind (Xm X.prog X.w))))[i]?:=by rw[C]
   rw[yZ,gE (show i<g.length by lia),jZf,kKd (show i<es.size by lia)]at h6
   rw[Y5 h6];rfl
  obtain⟨⟨k,x⟩,ek⟩:∃kx,kvs[i]?=some kx:=⟨_,gE hi⟩
  obtain⟨q2,Z,e4,U,_⟩:=Xh r ek
  have e6:q2=g[i]:=Y5 (Z.symm.trans (gE Om))
  subst e6
  exists _,rfl,Qmp (s:={ s with heap:=A }) e c O Dc ⟨.ref (g[i]).2.1,H,I1,hk,⟨rfl,_,k,x,rfl,U,ek⟩,m,fun b l=>(D b l).1⟩
 done:=by
  intro X S Q L B i j s σ H E I D a F
  subst S Q L
  obtain⟨Y,hi⟩:=F
  obtain⟨n,z,y,g,r,oo,M,N,u,h2,p,C,h5⟩:=(show ObjOk X.prog X.w H s.heap d (.frz o (.dT kvs))from I.hok d _ Y)
  rw[n]at u
  cases u
  rw[f]at p
  cases p
  have lr:=Paired.length r
  have G:es.size=g.length:=by rw[<-jXa,C,jX]
  obtain⟨R,W,f2,V,J,T⟩:=D it (by simp)
  exact Qac (I.ok.hd B) a n f Om fun A eb=>⟨rfl,I.turned (t':=s.toks) (fun b o l z=>eb b o l z) R W V J T⟩
 self:=fun _ _ _ _ _ a h=>wpAny_pyIter_keyiter a h
def iKeysT(F:Addr->Prop)(td:TE):TI:=fun σ H R=>td σ H fun v H1=>∃d kvs,v=.ref d/\H1 d=some (.dT kvs)/\(F d->∀o,R (ItKt d o kvs) (upd H1 d (.frz o (.dT kvs))))
theorem Qts{a:Expr}{td:TE}(E:PE X a td):PI X tg a (iKeysT (NF X) td):=by
 intro f s u H R I h
 refine thn (E f s u H _ I h) fun v j k=>?_
 obtain⟨x,B,m,D,K⟩:=k
 obtain⟨d,i,e,g,q⟩:=K
 subst e
 obtain rfl:v=Value.ref d:=D
 have nf:=m.nfT g
 obtain⟨o,p,l⟩:=m.freezeT g
 obtain⟨z,y,M,r,O,L,G,C,F,A,P,N⟩:=(show ObjOk X.prog X.w B j.heap d (.dT i)from m.hok d _ g)
 rw[p]at C
 cases C
 refine Qgi y p F A ?_
 have J:Inv X f u (upd B d (.frz o (.dT i))) { j with heap:=j.heap.push { cls:=.type "dict_keyiterator",data:=.fields #[.ref d,.int 0 0,.int L.size 0,.int G 0] } }:=l.kept (t':=j.toks) fun b o z=>jW _ z
 exists (qa j),[(qa j)],_,ItKt d o i,_,rfl,J,Qma A,⟨_,yJ _ rfl,rfl,rfl⟩,fun c n=>?_,q nf o
 simp only[kK,jXc,or_false]at n
 subst n
 exact l.fpOk (jJ _) (l.hok.fresh (jJ _))
def tThwE(F:Addr->Prop)(t:TE):TE:=fun σ H Q=>t σ H fun v H'=>∃d o kvs,F d/\H' d=some (.frz o (.dT kvs))/\Q v (upd H' d (.dT kvs))
theorem Qtt{t:TE}(h:PE X e t):PE X e (tThwE (NF X) t):=by
 intro a s c H Q I q
 refine thn (h a s c H _ I q) fun v k b=>?_
 obtain⟨x,j,f,i,d,o,g,nf,e,r⟩:=b
 exists x,_,f.thawT nf e,i,r
end L2
namespace Nb
open PySem L2
theorem Qih{v:V}(h:(ns.map V.str)[i]?=some v):∃n,ns[i]?=some n/\v=.str n:=by
 rw[yZ]at h
 cases e:ns[i]? with
 |none=>rw[e]at h;cases h
 |some n=>rw[e]at h;exists n,rfl,(Y5 h).symm
theorem at3_2{a b c:V}:atI [a,b,c] 2=some c:=rfl
abbrev Ch:=Str×Str×Int
def ChV(K:Fg)(H:Hp)(v:V)(c:Ch):Prop:=∃t,v=.ref t/\SqT K H t [.str c.1,.str c.2.1,.int c.2.2]
abbrev ChsAre(K:Fg)(H:Hp):List V->List Ch->Prop:=Paired (ChV K H)
theorem ChV.same(s:Same H H'){v:V}{c:Ch}(h:ChV K H v c):ChV K H' v c:=by obtain⟨t,e,z⟩:=h;exists t,e,s.tup z
theorem ChV.updL{g:Addr}(a:H g=some (.lst ys)){v:V}{c:Ch}(h:ChV K H v c):ChV K (upd H g (.lst zs)) v c:=by obtain⟨t,e,z⟩:=h;exists t,e,Zn a z
theorem ChsAre.same(s:Same H H'){A:List Ch}(h:ChsAre K H vs A):ChsAre K H' vs A:=Paired.mapP h fun _ _ z=>z.same s
theorem ChsAre.updL{g:Addr}(a:H g=some (.lst ys)){A:List Ch}(h:ChsAre K H vs A):ChsAre K (upd H g (.lst zs)) vs A:=Paired.mapP h fun _ _ z=>z.updL a
structure ChsAt(K:Fg)(H:Hp)(a:Addr)(A:List Ch):Prop where
 ex:∃vs,SqL K H a vs/\ChsAre K H vs A
 few:A.length<=2000000
theorem ChsAt.same(s:Same H H'){A:List Ch}(h:ChsAt K H a A):ChsAt K H' a A:=⟨let ⟨vs,z1,z2⟩:=h.ex;⟨vs,s.seq z1,z2.same s⟩,h.few⟩
theorem ch_mem{A:List Ch}(h:ChsAre K H vs A){v:V}(e:vs[i]?=some v):∃c,A[i]?=some c/\c∈A/\ChV K H v c:=by
 obtain⟨c,a,z⟩:=Xh h e
 exists c,a,kY a,z
theorem lc_chs{D:Addr}{A:List Ch}{f:Ch->Int}{Q:Addr->Hp->Prop}(k:τ0=none::cs)(o:ChsAt K H a A)(m:H D=none)
  (z:∀(c:Ch) (t:Addr) (H1:Hp),c∈A->Same H H1->SqT K H1 t [.str c.1,.str c.2.1,.int c.2.2]->∀P:V->Hp->Prop,(∀H2,Same H1 H2->P (.int (f c)) H2)->te (some (.ref t)::cs) H1 P)
  (y:∀H1,Same H H1->H1 D=some (.lst ((A.map f).map V.int))->Q D H1) :
  LcW (Itl K a) D τ0 H (Vl 0) tYes te Q:=by
 subst k
 obtain⟨q,l,r⟩:=o.ex
 have G:=Paired.length r
 exists"z"
 have E:=o.few
 let j:Nat->St->List V->Hp->Prop:=fun i g e H1=>∃v:Option V,g=v::cs/\e=((A.take i).map f).map V.int/\H1 D=some (.lst e)/\Same H H1
 refine Zi (n:=A.length) j ?_ (fun i g e H1 p h=>?_) (fun i g e H1 p h=>?_) (fun g e H1 h=>?_) ?_ ?_
 .exact⟨none,rfl,rfl,Qc,Qd m _⟩
 .obtain⟨v,rfl,rfl,b,d⟩:=h
  exists b,by rw[jX,jX,zZ];lia
 .obtain⟨v,rfl,rfl,b,d⟩:=h
  exists q,_,d.seq l,gE Om
 .obtain⟨v,rfl,rfl,b,d⟩:=h
  exists q,d.seq l,Om
 .rintro i g e H1 x H2 p ⟨v,rfl,rfl,b,d⟩ ⟨rfl,B⟩
  obtain⟨c,C,w,t,rfl,u⟩:=ch_mem r (B _ (d.seq l))
  refine z c t _ w d (d.tup u) _ fun F s=>⟨s _ _ b,_,rfl,?_,Qc,Vx (d.trans s) m⟩
  rw[Jn C,yK,yK];rfl
 .rintro g e H1 ⟨v,rfl,rfl,b,d⟩
  rw[yW]at b
  exact y H1 d b
def wayR(w:Str):BR->Option (Str×Int×Int)
 |.way w' v l c=>if w'=w then some (v,l,c)else none
 |_=>none
theorem wayR_some{x:Str×Int×Int}:wayR w r=some x↔r=.way w x.1 x.2.1 x.2.2:=by
 cases r with
 |way w' v l c=>
  show(if w'=w then some (v,l,c)else none)=some x↔_
  by_cases h:w'=w
  .rw[Y22 h,h]
   constructor
   .intro e;cases e;rfl
   .intro e;injection e with _ d b a;subst d b a;rfl
  .rw[Y20 h]
   exists fun e=>(nomatch e),fun e=>Y21 (by injection e) h
 |_=>exists fun e=>(nomatch e),fun e=>(nomatch e)
def chW(n:Int)(w:Str)(p:Str×Int×Int):List Ch:=(List.range (n-p.2.1+1).toNat).map fun b:Nat=>(w,p.1,(b:Int))
def chO(n:Int)(B:List BR)(w:Str):List Ch:=(B.filterMap (wayR w)).flatMap (chW n w)
def chs(n:Int)(B:List BR):List Ch:=(wks B).flatMap (chO n B)
theorem Kn{α β:Type}{l:List α}{f:α->List β}{m:Nat}(h:∀x∈l,(f x).length<=m):(l.flatMap f).length<=l.length*m:=by
 induction l with
 |nil=>simp
 |cons a l ih=>
  rw[jYf,jZ,yQ,Nat.add_mul,Nat.one_mul]
  have d:=h a (jY ..)
  have c:=ih fun x b=>h x (kJ _ b)
  lia
theorem Wv{α β:Type}{l:List α}{x:α}(f:α->List β)(h:l[i]?=some x):(l.take (i+1)).flatMap f=(l.take i).flatMap f++f x:=by
 rw[Jn h,yZb];simp
theorem Qxx{c:Ch}(h:c∈chO n B w):c.1=w/\∃l k,BR.way w c.2.1 l k∈B/\0<=c.2.2/\c.2.2+l<=n:=by
 obtain⟨x,a,g⟩:=jZc.mp h
 obtain⟨r,d,e⟩:=xX.mp a
 rw[wayR_some]at e
 subst e
 obtain⟨b,f,rfl⟩:=zK.mp g
 have:=kKa.mp f
 exists rfl,x.2.1,x.2.2,d,by show(0:Int)<=(b:Int);lia,by show(b:Int)+x.2.1<=n;lia
theorem Qxy{c:Ch}(h:c∈chs n B):∃l k,BR.way c.1 c.2.1 l k∈B/\0<=c.2.2/\c.2.2+l<=n:=by
 obtain⟨w,b,a⟩:=jZc.mp h
 obtain⟨e,z⟩:=Qxx a
 rw[e]
 exact z
theorem Qpn(bk:BookOk n B):∀x∈B.filterMap (wayR w),(chW n w x).length<=12:=fun x b=>by
 obtain⟨r,a,e⟩:=xX.mp b
 rw[wayR_some]at e
 subst e
 have c:1<=x.2.1/\_:=bk.wb.ok _ a
 have:=bk.n12
 unfold chW
 rw[jX,wX]
 lia
theorem Qpo(bk:BookOk n B)(w:Str):(chO n B w).length<=4800:=by
 have c:=Kn (Qpn bk (w:=w))
 have a:=xQ (wayR w) B
 have b:=bk.wb.len
 unfold chO
 lia
theorem Qxz(bk:BookOk n B):(chs n B).length<=2000000:=by
 have c:=Kn (l:=wks B) (f:=chO n B) (m:=4800) fun w _=>Qpo bk w
 have a:(wks B).length<=B.length:=xQ Zu B
 have b:=bk.wb.len
 unfold chs
 lia
end Nb
variable{good:List Nb.Ch->Prop}
namespace L2
open PySem PySem.Spec PyProof.Rows PySem.SeqAt
theorem Qgj{a b:Value}{Q:VP}(d:s.TypeIs a "list")(h:s.TypeIs b "list")(i:wpAny M A (call (.builtin "list.__iadd__") [a,b]) Q E s):wpAny M A (inplaceOp .Add a b) Q E s:=by
 unfold inplaceOp
 refine Y30 ?_
 have g:typeLookup (.type "list") (dunderI "add")=pure (some (.builtin "list.__iadd__")):=F.slot_list_iadd.lookup
 have f:isSeqSlot (some (.builtin "list.__iadd__"))=true:=Dk
 have c:fillsInplaceSlot (.type "list") "add" (Operator.Add == .Add)=pure false:=by
  unfold fillsInplaceSlot
  show(typeLookup (.type "list") (dunderI "add") >>= fun e=>pure (e.isSome&&!isSeqSlot e))=pure false
  rw[g,pure_bind,f];rfl
 refine jQ (Y40 d (jQ (Y32 c ?_)))
 show wpAny M A (if false=true then _ else _) Q E s
 rw[Y20 yY]
 refine jQ (wpAny_binaryOp1_none (nm:="add") d h (PySem.fillsNumberSlot_seq (id:="list.__add__") (r:=none) F.slot_list_add.lookup Dk (by rw[typeLookup_type,Y60];kernel_rfl) rfl) ?_)
 refine jQ (Y32 (PySem.seqSlot_of g f) ?_)
 exact jQ (Y58 i)
def ipL:TIp:=fun x y H Q=>∃l b xs zs,x=.ref l/\y=.ref b/\H l=some (.lst xs)/\H b=some (.lst zs)/\xs.length+zs.length<=sizeLine/\Q (.ref l) (upd H l (.lst (xs++zs)))
theorem Qya:PIp X .Add ipL:=by
 intro i s E H x y v u Q I w k h
 obtain⟨l,b,B,A,rfl,rfl,j,m,G,q⟩:=h
 cases w
 cases k
 obtain⟨z,c,n,r,C,e⟩:=I.lstM j
 obtain⟨D,a,t,o,p,g⟩:=I.lstM m
 have f:c.toArray.size+a.toArray.size<=sizeLine:=by rw[kX,kX];lia
 have d:¬(!c.toArray.isEmpty&&Builtin.List.listTooLong (c.toArray.size+a.toArray.size))=true:=by
  rw[Qrr f,Bool.and_false]
  exact yY
 refine Qgj ⟨_,e,rfl⟩ ⟨_,g,rfl⟩ (Y63 F.slot_list_iadd ⟨_,e,rfl⟩ F.entry_list_iadd (F.args_list_iadd_2 _ _)
  (AutoSeq1.list___iadd___list_list_0 l c.toArray n b a.toArray t d (by rw[kX];lia) Om) ⟨e,g,?_⟩)
 exists .ref l,_,I.lset (its':=c++a) j e (by simp) (r.append o) ?_,rfl,q
 rw[jZ]
 lia
end L2
namespace Nb
open PySem L2
abbrev Qdd:Stmt:=inClass (top 14) 3
def wyK(w:Str):List Key->Option Str
 |[.inr a,.inr b,.inr v]=>if a="way"/\b=w then some v else none
 |_=>none
theorem Qyb{k:List Key}(h:wayK k=false):wyK w k=none:=by
 have c:¬(k.head?=some (inr ("way":Str))):=Y69 h
 unfold wyK
 split
 .rename_i a b v
  rw[Y20]
  rintro⟨rfl,_⟩
  exact c rfl
 .rfl
theorem Qyc(r:BR):wyK w r.key=(wayR w r).map (·.1):=by
 cases r with
 |way w' v l c=>
  show(if ("way":Str)="way"/\w'=w then some v else none)=Option.map _ (if w'=w then some (v,l,c)else none)
  by_cases h:w'=w
  .rw[Y22 ⟨rfl,h⟩,Y22 h];rfl
  .rw[Y20 (fun z=>h z.2),Y20 h];rfl
 |use k w' v t m=>rfl
 |after x y g=>
  show(if ("after":Str)="way"/\x=w then some y else none)=none
  rw[Y20 (fun z=>Y21 z.1 Dk)]
 |_=>rfl
theorem Qek{w:Str}:∀l:List (List Key),l.filterMap (wyK w)=(l.filter wayK).filterMap (wyK w)
 |[]=>rfl
 |k::l=>by
  rw[kQf]
  by_cases h:wayK k=true
  .rw[Y22 h,jQf,jQf,Qek l]
  .rw[Y20 h,jQf,Qyb (by simpa using h),Qek l]
theorem Qyd(h:(kvs.map (·.1)).filter wayK=(B.map BR.key).filter wayK)(w:Str):kvs.filterMap (fun p=>wyK w p.1)=(B.filterMap (wayR w)).map (·.1):=by
 have a:kvs.filterMap (fun p=>wyK w p.1)=(kvs.map (·.1)).filterMap (wyK w):=by rw[List.filterMap_map];rfl
 rw[a,Qek,h,<-Qek,List.filterMap_map,List.map_filterMap]
 congr 1
 funext r
 exact Qyc r
theorem Qye(h:(kvs.map (·.1)).filter wayK=(B.map BR.key).filter wayK){k:List Key}{x:V}(j:(k,x)∈kvs)(e:cutV (k.map kV) none (some 2)=[V.str "way",V.str w]):∃v,k=[inr ("way":Str),inr w,inr v]:=by
 have d:(k.take 2).map kV=[V.str "way",V.str w]:=by
  rw[<-e]
  unfold cutV
  rw[HT.sIx_none,jJb,kYe,show(2:Int)=((2:Nat):Int)from rfl,HT.sIx_nat,jX,<-kXe]
  congr 1
  by_cases c:2<=k.length
  .rw[jQb c]
  .rw[kZd Om,zW Om,zW (jJ _)]
 have g:wayK k=true:=by
  match k,d with
  |a::k',d=>
   rw[List.take_succ_cons,zX]at d
   injection d with b
   cases a with
   |inl i=>exact nomatch b
   |inr a=>injection b with b;subst b;exact yX rfl
  |[],d=>exact nomatch d
 have n:k∈(B.map BR.key).filter wayK:=by
  rw[<-h]
  exact zV.mpr ⟨zK.mpr ⟨_,j,rfl⟩,g⟩
 obtain⟨r,o,rfl⟩:=zK.mp (zV.mp n).1
 have f:r.word="way":=by
  have:=kZ g
  exact Y37 (Y5 (show some (inr r.word:Key)=some (inr ("way":Str))from this))
 obtain⟨m,v,l,c,rfl⟩:=Qeb f
 have b:[V.str "way",V.str m]=[V.str "way",V.str w]:=d
 injection b with _ b
 injection b with b
 injection b with b
 subst b
 exists v,rfl
theorem Qvg{k:Key}{a:Str}(h:V.str a=kV k):k=inr a:=by
 cases k with
 |inl i=>exact nomatch h
 |inr x=>injection h with h;rw[h]
theorem two_keys{a b:Str}(h:[V.str a,V.str b]=ks.map kV):ks=[inr a,inr b]:=by
 cases ks with
 |nil=>exact nomatch h
 |cons x ks=>
  rw[zX]at h
  injection h with d h
  cases ks with
  |nil=>exact nomatch h
  |cons y ks=>
   rw[zX]at h
   injection h with c h
   cases ks with
   |nil=>rw[Qvg d,Qvg c]
   |cons z ks=>exact nomatch h
structure ChI(K:Fg)(H0 H:Hp)(g:Addr)(A:List Ch):Prop where
 fr:H0 g=none
 sm:Same H0 H
 ex:∃ys,H g=some (.lst ys)/\ChsAre K H ys A
theorem ChI.same(s:Same H H'){g:Addr}{A:List Ch}(h:ChI K H0 H g A):ChI K H0 H' g A:=⟨h.fr,h.sm.trans s,let ⟨ys,z1,z2⟩:=h.ex;⟨ys,s _ _ z1,z2.same s⟩⟩
inductive Qvh(K:Fg)(C:Addr)(vs:List V)(H:Hp)(Q:VK)(E:XK):Prop|mk(p:Addr)(n:Int)(B:List BR)(_:vs=[.ref p])(_:FcAt K C H p n B)(_:BookOk n B)(_:∀(g:Addr) (H':Hp),Same H H'->H g=none->H' g≠none->ChsAt K H' g (chs n B)->Q (.ref g) H'):Qvh K C vs H Q E
section
variable{w:World}
theorem scFcA:FnScope ["self","found","work","way"] ["self"] (Qh Qdd):=Sc
theorem okFcA(F:Fun K "all_choices" "Facts.all_choices" Qdd f fd)(M:Mg mg)(T:FcTxt K mg C)(GL:FnOk P w K mg base CX0 1 fL fdL ["self","work","way"] (Qic K C))(bL:Binds K fdL ["self","work","way"] [])(mL:Meth K C "last_begin" fL):FnOk P w K mg base CX0 2 f fd ["self"] (Qvh K C):=by
 refine F.ok scFcA (a:=fun aw A ar s H vs Q E hr h=>?_)
 obtain⟨p,n,B,rfl,ao,bk,q⟩:=h
 have aq:=Z6 6 hr.un
 have hz:=X0 2000000
 obtain⟨dx,lw,lb,lh,ls,la,S,fs,d,yh,ax,ya,N⟩:=id ao
 refine⟨_,(Qg (Z4 1 scFcA.nd (Xg Qf))
  (Qg (Yb Y33 rfl (Xd (Yq (pv 0) rfl)) (Z3 2 scFcA.nd) (Qi (Yb Y33 rfl (Xd (Qtt (Yh ["names","work"] [none,some 2] rfl (Qts (Yq (pv 0) rfl)) (fun _ _ _=>(Z3 0 (show(["names","work"]:List Str).Nodup by decide +kernel))) (fun _ _ _=>(Zh (Ql (Qxw (K:=K) (n:=6) rfl aq) (Xc (Qsm (K:=K) rfl) (pv 0) Xn (Xe Qe)) (Yf (Qa Qq (Qa (pv 1) Qf))) (Qp _)))) (fun _ _ _=>(Qs (Wd (K:=K) rfl) (pv 0) Qe))))) (Z3 3 scFcA.nd) (Qi (Qmo (i:=1) scFcA.nd rfl (inl rfl) (Yh ["begin","work","way"] [none,some 2,some 3] rfl (Xs rfl M.range_ (Qa (Qk Qy (Zf (pv 0) T.cl mL GL (hr.mono Dc) bL .nil Jx (Qa (pv 2) (Qa (pv 3) Qf))) Qe) Qf)) (fun _ _ _=>(Z3 0 (show(["begin","work","way"]:List Str).Nodup by decide +kernel))) (fun _ _ _=>Zg) (fun _ _ _=>(Yf (Qa (pv 1) (Qa (pv 2) (Qa (pv 0) Qf)))))) Qya)))))
  (Qi (Qx (pv 1))))),?_⟩
 exists Z1 0,fun g hg=>?_
 have c0:ChI K H (upd H g (.lst [])) g []:=⟨hg,Qd hg _,[],Qc,.nil⟩
 generalize upd H g (.lst [])=O at c0⊢
 let ap:Nat->St->Hp->Prop:=fun i σ O=>∃u v:Option V,σ=[some (.ref p),some (.ref g),u,v]/\ChI K H O g (((wks B).take i).flatMap (chO n B))
 exists _,rfl,p,C,dx,fs,_,rfl,c0.sm _ _ N.hp,T.cl,T.nW,N.fW,lw,rfl,⟨_,Qb (c0.sm _ _ N.hW)⟩,Yx (xs:=(wks B).map V.str) ap ⟨none,none,rfl,c0⟩ ?_ ?_ ?_
 .rintro i σ O hi ⟨u,v,rfl,c⟩
  exact Qb (c.sm _ _ N.hW)
 .rintro i x σ O ex ⟨u,v,rfl,c⟩
  obtain⟨w,ew,rfl⟩:=Qih ex
  exists _,rfl,p,C,dx,fs,_,rfl,c.sm _ _ N.hp,T.cl,T.nI,N.fI,S,d,rfl,c.sm _ _ N.hI,fun nf o D hD=>?_
  have al:=c.sm _ _ N.hI
  have sf:∀b u,O b=some u->b≠S->upd O S (.frz o (.dT d)) b=some u:=fun b u e ne=>by rw[Qj ne];exact e
  have L:upd O S (.frz o (.dT d)) S=some (.frz o (.dT d)):=Qc
  have aa:O D=none:=by
   cases e:O D with
   |none=>rfl
   |some u=>
    by_cases c:D=S
    .subst c;rw[L]at hD;cases hD
    .rw[sf D u e c]at hD;cases hD
  generalize upd O S (.frz o (.dT d))=Hf at sf L hD⊢
  have lk:=N.kl
  let aj:Nat->St->List V->Hp->Prop:=fun j R G U=>∃v:Option V,R=[v,some (.str w)]/\G=((d.take j).filterMap fun p=>wyK w p.1).map V.str/\G.length<=j/\U D=some (.lst G)/\Same Hf U
  refine Zi (n:=d.length) aj ?_ (fun j R G U hj h=>?_) (fun j R G U hj h=>?_) (fun R G U h=>?_) ?_ ?_
  .exact⟨none,rfl,rfl,jJ _,Qc,Qd hD _⟩
  .obtain⟨v,rfl,Y,hl,J,I⟩:=h
   exists J,Om
  .obtain⟨v,rfl,Y,hl,J,I⟩:=h
   exists I _ _ L,hj
  .obtain⟨v,rfl,Y,hl,J,I⟩:=h
   exists I _ _ L,jJ _
  .rintro j R G U x H3 hj ⟨v,rfl,Y,hl,J,I⟩ ⟨rfl,t,k,y,rfl,ht,ek⟩
   obtain⟨an,e2⟩:=Qaf k none (some 2)
   exists _,rfl,_,rfl,t,_,rfl,Xb ht,fun p2 H4 s4 ag=>⟨_,rfl,Z1 2,fun p3 ai=>?_⟩
   rw[e2]at ag
   have s5:=s4.trans (Qd ai (.tup [.str "way",.str w]))
   have ac:=(Qd ai (.tup [.str "way",.str w])).tup ag
   have ad:SqT K (upd H4 p3 (.tup [.str "way",.str w])) p3 ([inr ("way":Str),inr w].map kV):=Xb Qc
   generalize upd H4 p3 (.tup [.str "way",.str w])=H5 at s5 ac ad⊢
   exists p2,p3,an,[inr ("way":Str),inr w],rfl,rfl,ac,ad,fun c hc=>⟨_,rfl,ite2 (fun y=>?_) (fun y=>?_)⟩
   .have e3:=hc.mp y
    rw[e3]at e2
    obtain⟨vv,rfl⟩:=Qye N.wo (kY ek) e2
    have e4:wyK w [inr ("way":Str),inr w,inr vv]=some vv:=by
     show(if ("way":Str)="way"/\w=w then some vv else none)=some vv
     rw[Y22 ⟨rfl,rfl⟩]
    exists _,rfl,t,_,_,_,rfl,rfl,s5.tup (Xb ht),at3_2,s5 _ _ J,_,rfl,?_,by rw[jZ];exact wW hl,Qc,Vx (I.trans s5) hD
    rw[Jo (fun p=>wyK w p.1) ek,e4,yK,Y]
    rfl
   .have e4:wyK w k=none:=by
     cases e:wyK w k with
     |none=>rfl
     |some vv=>
      exfalso
      unfold wyK at e
      split at e
      .rename_i a b v'
       split at e
       .rename_i h'
        obtain⟨rfl,rfl⟩:=h'
        have e5:cutV ([V.str "way",V.str b,V.str v']) none (some 2)=an.map kV:=e2
        rw[cut2]at e5
        refine y (hc.mpr ?_)
        exact two_keys e5
       .cases e
      .cases e
    exists _,rfl,?_,Om,s5 _ _ J,I.trans s5
    rw[Jo (fun p=>wyK w p.1) ek,e4,Y]
    simp
  rintro R G U ⟨v',rfl,Y,hl,J,I⟩
  rw[yW,Qyd N.wo]at Y
  exists S,o,d,nf,I _ _ L,?_
  have nD:D≠S:=fun e=>by rw[e,al]at aa;cases aa
  have s5:Same O (upd U S (.dT d)):=fun b u e=>by
   by_cases c:b=S
   .subst c;rw[Qc,<-al];exact e
   .rw[Qj c];exact I _ _ (sf b u e c)
  have W:upd U S (.dT d) D=some (.lst G):=by rw[Qj nD];exact J
  have c5:=c.same s5
  have au:D≠g:=fun e=>by obtain⟨zs,hz,_⟩:=c.ex;rw[e,hz]at aa;cases aa
  generalize upd U S (.dT d)=H5 at s5 W c5⊢
  rw[Y]at W
  clear Y J I L sf
  have wl:=xQ (wayR w) B
  have bl:=bk.wb.len
  exists D,rfl,⟨_,Qb W⟩,Yx (xs:=((B.filterMap (wayR w)).map (·.1)).map V.str) (fun j σ H6=>∃v:Option V,σ=[some (.ref p),some (.ref g),some (.str w),v]/\ChI K H H6 g (((wks B).take i).flatMap (chO n B)++((B.filterMap (wayR w)).take j).flatMap (chW n w))/\H6 D=some (.lst (((B.filterMap (wayR w)).map (·.1)).map V.str))) ⟨v,rfl,by rw[kKb,List.flatMap_nil,xV];exact c5,W⟩ ?_ ?_ ?_
  .rintro j σ H6 hj ⟨v,rfl,c6,Z⟩
   exact Qb Z
  .rintro j x σ H6 ex ⟨v,rfl,c6,Z⟩
   obtain⟨vv,ak,rfl⟩:=Qih ex
   rw[yZ]at ak
   obtain⟨⟨X,l,k⟩,am,e7⟩:=jZe.mp ak
   have av:X=vv:=e7
   subst av
   obtain⟨r,hr,er⟩:=xX.mp (kY am)
   rw[wayR_some]at er
   subst er
   have ay:1<=l/\l<=n/\_:=bk.wb.ok _ hr
   have aA:=bk.n12
   exists _,rfl,_,rfl,p,dx,fs,rfl,c6.sm _ _ N.hp,N.nL,_,rfl,_,rfl,p,n,B,w,X,l,k,rfl,ao.same c6.sm,hr,fun H7 s7=>⟨_,_,rfl,rfl,_,rfl,Om,Om,fun D2 ab=>?_⟩
   let af:Nat->St->List V->Hp->Prop:=fun m R G H8=>∃v:Option V,R=[v,some (.str w),some (.str X)]/\ChsAre K H8 G ((List.range m).map fun b:Nat=>(w,X,(b:Int)))/\H8 D2=some (.lst G)/\Same H7 H8
   refine Zi (n:=(n-l+1).toNat) af ?_ (fun m R G H8 hm h=>?_) (fun m R G H8 hm h=>?_) (fun R G H8 h=>?_) ?_ ?_
   .exact⟨none,rfl,.nil,Qc,Qd ab _⟩
   .obtain⟨v,rfl,hY,J,I⟩:=h
    have:=Paired.length hY
    rw[jX,wX]at this
    exists J,Om
   .exact hm
   .exact jJ _
   .rintro m R G H8 x H9 hm ⟨v,rfl,hY,J,I⟩ ⟨rfl,rfl⟩
    exists _,rfl,_,rfl,_,rfl,Z1 3,fun t ht=>?_
    have s9:=Qd ht (.tup [.str w,.str X,.int (0+(m:Int))])
    have ah:upd H9 t (.tup [.str w,.str X,.int (0+(m:Int))]) t=some (.tup [.str w,.str X,.int (0+(m:Int))]):=Qc
    generalize upd H9 t (.tup [.str w,.str X,.int (0+(m:Int))])=H10 at s9 ah⊢
    exists s9 _ _ J,_,rfl,?_,Qc,Vx (I.trans s9) ab
    rw[yYa,yK]
    refine Paired.snoc ((ChsAre.same s9 hY).updL (s9 _ _ J)) ⟨t,rfl,Zn (s9 _ _ J) (Xb ?_)⟩
    rw[ah,kYd]
   rintro R G H8 ⟨v',rfl,hY,J,I⟩
   have c8:=c6.same (s7.trans I)
   obtain⟨xs,ae,hX⟩:=c8.ex
   have l1:=Paired.length hX
   have l2:=Paired.length hY
   have az:D2≠g:=fun e=>by
    obtain⟨zs,hz,_⟩:=(c6.same s7).ex
    rw[e,hz]at ab;cases ab
   have e9:((wks B).take i).flatMap (chO n B)++((B.filterMap (wayR w)).take (j+1)).flatMap (chW n w)=(((wks B).take i).flatMap (chO n B)++((B.filterMap (wayR w)).take j).flatMap (chW n w))++((List.range (n-l+1).toNat).map fun b:Nat=>(w,X,(b:Int))):=by
    rw[Wv (chW n w) am,xY];rfl
   exists g,D2,xs,G,rfl,rfl,ae,J,?_,_,rfl,?_,?_
   .rw[l1,l2,<-jZ,<-e9,jZ]
    have a1:=Kn (l:=(wks B).take i) (f:=chO n B) (m:=4800) fun w _=>Qpo bk w
    have a2:=Kn (l:=(B.filterMap (wayR w)).take (j+1)) (f:=chW n w) (m:=12) fun x hx=>Qpn bk x (yYf hx)
    have a3:(wks B).length<=B.length:=xQ Zu B
    rw[zZ]at a1 a2
    lia
   .rw[e9]
    exists c8.fr,Vx c8.sm c8.fr,_,Qc,Qcw (hX.updL ae) (ChsAre.updL ae hY)
   .rw[Qj au]
    exact I _ _ (s7 _ _ Z)
  .rintro σ H6 ⟨v,rfl,c6,Z⟩
   rw[jX,jX,yW]at c6
   exists _,_,rfl,by rw[Wv (chO n B) ew];exact c6
 .rintro σ O ⟨u,v,rfl,c⟩
  rw[jX,yW]at c
  obtain⟨G,hy,hY⟩:=c.ex
  exists _,rfl,q g O c.sm c.fr (by rw[hy];exact fun z=>nomatch z) ⟨⟨G,Qb hy,hY⟩,Qxz bk⟩
end
end Nb
namespace L2
open PySem PySem.Spec PyProof.Rows PySem.SeqAt
def ItS(x:Str):It:=⟨fun i _=>i<x.cps.size,fun i H v H'=>H'=H/\∃c,x.cps[i]?=some c/\v=.str ⟨#[c]⟩,fun i _=>x.cps.size<=i⟩
theorem Qtu{w:World}{t:Tok}(j:Addr):Turn P w K tg (ItS x) [j] j (fun i h=>h.IsStrIter j "str_ascii_iterator" x t i) where
 mem:=jY
 obj:=fun i h f b g=>by
  rw[jV.mp g]
  obtain⟨o,e,_,d⟩:=f
  exists o,e,fun v z=>by rw[d]at z;cases z
 keep:=fun i h n ⟨o,e,r⟩ k=>⟨o,k j jY o e,r⟩
 item:=by
  intro X D B y _ i a s N H E I p f m
  subst D B y
  obtain⟨C,L,R,G,u,F⟩:=p j jY
  have M:x.cps[i]?=some (x.cps[i]'m):=kKd m
  refine wpAny_pyNext_ascii_item f M fun n l S=>?_
  have J:Inv X a N H { s with heap:=n,toks:=s.toks+1 }:=I.turned (t':=s.toks+1) (fun b o g e=>(S.2 b g).trans e) C L G u F
  obtain⟨o,e,c,d⟩:=id l
  exists _,rfl,Qmp (s:={ s with heap:=n,toks:=s.toks+1 }) e c d Dc ⟨.str _,H,J,⟨_,rfl⟩,⟨rfl,_,M,rfl⟩,l,fun b g=>(p b g).1⟩
 done:=by
  intro X D B y O i a s N H E I p f m
  subst D B y
  obtain⟨C,L,R,G,u,F⟩:=p j jY
  refine wpAny_pyNext_ascii_end (I.ok.hd O) f (Array.getElem?_eq_none m) fun n ex=>⟨rfl,I.turned (t':=s.toks) (fun b o g e=>ex b o g e) C L G u F⟩
 self:=fun A i s Q E f q=>wpAny_pyIter_striter_ascii f q
theorem Qvi{l:Expr}{tl:TE}(m:PE X l tl):PI X tg l (fun σ H R=>tl σ H fun v H1=>∃x:Str,v=.str x/\x.cps.all (· < 128)=true/\R (ItS x) H1):=by
 intro a s σ H R I h
 refine thn (m a s σ H _ I h) fun v f d=>?_
 obtain⟨z,H1,c,i,k⟩:=d
 obtain⟨x,rfl,j,q⟩:=k
 obtain⟨t,rfl⟩:=(show ∃t,v=Value.str x t from i)
 refine wpAny_pyIter_ascii j ?_
 exists (qa f),[(qa f)],_,_,H1,rfl,c.kept (t':=f.toks) fun b o e=>jW _ e,Qtu (t:=t) _,⟨_,yJ _ rfl,rfl,rfl⟩,fun b g=>?_,q
 rw[jV.mp g]
 exact c.fpOk (jJ _) (c.hok.fresh (jJ _))
theorem Qgk:OpR X (compareOp .LtE) (fun a b H Q=>∃i j,a=.str i/\b=.str j/\Q (.bl (!decide (j.cps.toList<i.cps.toList))) H):=by
 rintro c s g H a b u v Q I f e ⟨i,j,rfl,rfl,q⟩
 obtain⟨t,rfl⟩:=(show ∃t,u=Value.str i t from f)
 obtain⟨d,rfl⟩:=(show ∃d,v=Value.str j d from e)
 exact PySem.P.le_str (Xz I q rfl)
theorem Qgl:∀{ts:List Str} {its:List Value},Vals (ts.map V.str) its->∃l:List (Str×Tok),l.map (·.1)=ts/\its=strValues l
 |[],_,.nil=>⟨[],rfl,rfl⟩
 |x::r,_,.cons ⟨t,e⟩ z=>let ⟨l,a,b⟩:=Qgl z;⟨(x,t)::l,by rw[zX,a],by rw[e,b];rfl⟩
theorem Qii:MtR X "str.join" (fun x xs H Q=>∃(sep:Str) (a:Addr) (ts:List Str),x=.str sep/\xs=[.ref a]/\SqL X.K H a (ts.map V.str)/\JoinOk sep ts=true/\Q (.str (Txt.join sep ts)) H):=by
 intro b s m H x xs v o Q I d j h
 obtain⟨sep,a,ts,rfl,rfl,i,ok,q⟩:=h
 obtain⟨t,rfl⟩:=d
 obtain⟨u,rfl,f⟩:=j.one
 cases f
 obtain⟨e,r,p,_⟩:=I.list i
 obtain⟨l,c,g⟩:=Qgl r
 subst g
 exact PySem.SC.join p.isList c ok fun n k=>⟨.str _,H,I.tok k,⟨_,rfl⟩,q⟩
theorem Qgm:∀{l:List (Str×Tok)},Vals ((l.map (·.1)).map V.str) (strValues l)
 |[]=>.nil
 |(_,t)::_=>.cons ⟨t,rfl⟩ Qgm
theorem Qel:MtR X "str.split" (fun x xs H Q=>∃(a b:Str),x=.str a/\xs=[.str b]/\(b.length == 0)=false/\a.length<=sizeLine/\(Builtin.Str.partsBetween a (Builtin.Str.occurrences a b 0 a.length (a.length+1)) b.length).length<=sizeLine/\∀D,H D=none->Q (.ref D) (upd H D (.lst ((Txt.split a b).map V.str)))):=by
 intro d s r H x xs v z Q I o y h
 obtain⟨a,b,rfl,rfl,i,m,j,q⟩:=h
 obtain⟨t,rfl⟩:=o
 obtain⟨u,rfl,p⟩:=y.one
 obtain⟨t',rfl⟩:=p
 have w:=I.hok.fresh (jJ (qa s))
 have fin:∀(l:List (Str×Tok)) (k:Nat),l.map (·.1)=Txt.split a b->(strValues l).length<=sizeLine->EP X d r Q (.ref (qa s)) { s with toks:=k,heap:=s.heap.push ⟨.type "list",none,.seq (strValues l).toArray,#[]⟩ }:=fun l k e n=>by
  rw[<-e]at q
  have v:=Qgm (l:=l)
  exists .ref (qa s),_,I.lnew (t':=k) v (by rw[v.length];exact n),rfl,q _ w
 cases c:(decide (a.length<b.length)||decide (Builtin.Str.strKind a<Builtin.Str.strKind b))
 .cases g:(Builtin.Str.occurrences a b 0 a.length (a.length+1)).isEmpty
  .refine Y63 F.slot_str_split (typeIs_str _ _ _) F.entry_str_split (F.args_str_split_2 _ _) (meets_str_split_sep a b t t' c i g m j) ?_
   have f:=fin (numbered s.toks (Builtin.Str.partsBetween a (Builtin.Str.occurrences a b 0 a.length (a.length+1)) b.length)) (s.toks+(Builtin.Str.partsBetween a (Builtin.Str.occurrences a b 0 a.length (a.length+1)) b.length).length) ((numbered_texts _ _).trans ((Y20 (ne_true_of_eq_false c)).trans (Y20 (ne_true_of_eq_false g))).symm) (by
    show(List.map _ (numbered _ _)).length<=sizeLine
    rw[jX,<-jX (f:=(·.1)),numbered_texts]
    exact j)
   rw[<-strsFrom_eq]at f
   exact f
  .exact Y63 F.slot_str_split (typeIs_str _ _ _) F.entry_str_split (F.args_str_split_2 _ _) (meets_str_split_not_found a b t t' c i g) (fin [(a,t)] s.toks ((Y20 (ne_true_of_eq_false c)).trans (Y22 g)).symm (Z1 1))
 .exact Y63 F.slot_str_split (typeIs_str _ _ _) F.entry_str_split (F.args_str_split_2 _ _) (meets_str_split_cannot_occur a b t t' c) (fin [(a,t)] s.toks (Y22 c).symm (Z1 1))
theorem Qgn:CallR X (.type "str") (fun xs H Q=>(∃a:Str,xs=[.str a]/\Q (.str a) H)\/∃i:Int,xs=[.int i]/\i.natAbs.log2<1920/\Q (.str (toString i)) H):=by
 intro b s e H xs d Q I r h
 rcases h with⟨a,rfl,q⟩ | ⟨i,rfl,c,q⟩
 .obtain⟨u,rfl,t,rfl⟩:=vals1 r
  exact PySem.P.str_of_str ⟨.str a,H,I,⟨_,rfl⟩,q⟩
 .obtain⟨u,rfl,t,rfl⟩:=vals1 r
  exact PySem.P.str_of_int c ⟨.str _,H,I.tok _,⟨_,rfl⟩,q⟩
end L2
namespace L2
open PySem PySem.Spec PySem.Calls PyProof.Rows PySem.W PySem.SeqAt
theorem Qem:MtR X "str.ljust" (fun x xs H Q=>∃(a:Str) (i:Int),x=.str a/\xs=[.int i]/\PadOk i=true/\Q (.str (Txt.ljust a i)) H):=by
 intro b s j H x xs v l Q I c g h
 obtain⟨a,i,rfl,rfl,d,q⟩:=h
 obtain⟨t,rfl⟩:=c
 obtain⟨u,rfl,e⟩:=g.one
 obtain⟨f,rfl⟩:=e
 exact SC.ljust d fun f k=>⟨.str _,H,I.tok _,⟨_,rfl⟩,q⟩
theorem Qtv:MtR X "str.zfill" (fun x xs H Q=>∃(a:Str) (i:Int),x=.str a/\xs=[.int i]/\PadOk i=true/\Q (.str (Txt.zfill a i)) H):=by
 intro b s j H x xs v l Q I c g h
 obtain⟨a,i,rfl,rfl,d,q⟩:=h
 obtain⟨t,rfl⟩:=c
 obtain⟨u,rfl,e⟩:=g.one
 obtain⟨f,rfl⟩:=e
 exact SC.zfill d fun f k=>⟨.str _,H,I.tok _,⟨_,rfl⟩,q⟩
theorem Qpp{α β:Type}{R:α->β->Prop}{xs:List α}{ys:List β}(h:Paired R xs ys){y:β}(e:ys[i]?=some y):∃x,xs[i]?=some x/\R x y:=by
 have d:=h.length
 have f:=(jK.mp e).1
 have b:xs[i]?=some (xs[i]'Om):=gE Om
 obtain⟨c,a,r⟩:=Xh h b
 rw[e]at a
 cases a
 exists _,b,r
theorem Qpq{pl2:Z7}(V:A.units+1<cLine)(I:Inv X pins σ H s)(h1:PlanAt X.K H a pl)(h2:PlanAt X.K H b pl2)(k:pl.Perm pl2):∃vs1 vs2,(a == sysModules)=false/\(b == sysModules)=false/\s.heap.DictOf (Xm X.prog X.w) a vs1/\s.heap.DictOf (Xm X.prog X.w) b vs2/\vs1.length=vs2.length/\PySem.W.KeqHits A.in1 s vs2 vs1 true:=by
 obtain⟨m,e1,L⟩:=h1
 obtain⟨f,Y,P⟩:=h2
 obtain⟨z1,r,vs1,d,B⟩:=Qfs I.hok e1
 obtain⟨z2,F,vs2,c,g⟩:=Qfs I.hok Y
 have D:(f.map (·.1)).Nodup:=by
  obtain⟨_,_,_,_,_,_,_,_,n⟩:=id g
  rw[Qof c];exact n
 have l1:=Paired.length L
 have l2:=Paired.length P
 have l3:=d.length
 have l4:=c.length
 have h:∀i,i<=vs1.length->PySem.W.KeqHits A.in1 s vs2 (vs1.drop i) true:=by
  intro i hi
  obtain⟨n,hn⟩:∃n,vs1.length-i=n:=⟨_,rfl⟩
  induction n generalizing i with
  |zero=>rw[kZa Om];exact .nil
  |succ n ih=>
   have Q:i<vs1.length:=Om
   rw[List.drop_eq_getElem_cons Q]
   obtain⟨q,G,N⟩:=Xh d (i:=i) (x:=m[i]'Om) (gE _)
   obtain⟨l,z,f1,u,T,k1⟩:=Xh L (i:=i) (x:=m[i]'Om) (gE _)
   obtain⟨j,C⟩:=jQa.mp (k.mem_iff.mp (kY z))
   obtain⟨y2,t,Z,O,g2,U⟩:=Qpp P C
   have E:vs1[i]=q:=by rw[gE Q]at G;exact Y5 G
   have ev:valV f (inr l.1)=some (.ref O):=Qjn (i:=j) D (by
    rw[t]
    exact congrArg some (Prod.ext Z g2))
   obtain⟨y,R,S⟩:=RelO.some_of (v:=.ref O) (o:=valueAt vs2 (inr l.1)) (by rw[<-ev];exact c.val _)
   cases S
   have er:q.2=.ref u:=by
    have M:=N.2
    rw[T]at M
    exact(show q.2=Value.ref u from M)
   rw[E]
   obtain⟨qk,qv⟩:=q
   have ek:qk=inr l.1:=N.1.symm.trans f1
   have p:qv=.ref u:=er
   subst ek p
   exact PySem.W.KeqHits.hit (e:=true) (b:=true) R (Qoe (ks:=[inr l.2.1,Sum.inl l.2.2]) (by show A.units+1<cLine;exact V) I k1 U) (ih (i+1) Om Om)
 have J:=h 0 (wJ _)
 rw[jJb]at J
 have l5:=k.length_eq
 exists vs1,vs2,r,F,B,g,Om,J
theorem Qyf{n:Nat}(o:X.K=K)(E:2<=n)(r:X.A.units+n<cLine):OpR X (compareOp .Eq) (fun x y H Q=>∃(a b:Addr) (pl pl2:Z7),x=.ref a/\y=.ref b/\PlanAt K H a pl/\PlanAt K H b pl2/\pl.Perm pl2/\Q (.bl true) H):=by
 subst o
 intro k s D H x y v u Q I z l h
 obtain⟨a,b,pl,pl2,rfl,rfl,B,p,f,q⟩:=h
 cases z
 cases l
 obtain⟨g,i,c,j,d,e,C,m⟩:=Qpq (A:=X.A) Om I B p f
 exact PySem.W.keq_eq (knd:=Xm X.prog X.w) c j d e Om (fun _=>m) (by
  have t:(g.length == i.length&&true)=true:=by rw[Bool.and_true,beq_iff_eq];lia
  rw[t]
  exists .bl true,H,I,rfl,q)
open PySem.MeetsSeq PySem.MeetsSeq2 PySem.MeetsSeq3 in
open AutoSeq1 (wpAny_loadPart') in
open PySem.MeetsSeq PySem.MeetsSeq2 PySem.MeetsSeq3 in
open AutoSeq1 (wpAny_loadPart') in
theorem Zc:SlR X (fun x lo hi H Q=>∃z:Str,x=.str z/\(qf z lo hi).length<=sizeLine/\Q (.str (qf z lo hi)) H):=by
 intro d s E H x v F C lo hi D Q I y g w B h
 obtain⟨z,rfl,a,q⟩:=h
 obtain⟨t,rfl⟩:=y
 have b:∀{u:Value} {o:Option Int},IsPart u o->∃p:Option (Int×Tok),partValue p=u/\p.map (·.1)=o:=fun{u o} h=>by
  cases h with
  |none=>exists none,rfl,rfl
  |int=>exists some (_,_),rfl,rfl
 obtain⟨j,m,A⟩:=b w
 obtain⟨r,i,k⟩:=b B
 exists "str",_,slot_str_getitem.lookup,typeIs_str s z t,?_
 obtain⟨o,n,e,f⟩:=g
 refine wpAny_getItem_str_slice (l:=j) (u:=r) (st:=none) ⟨o,n,e,by rw[f,<-m,<-i];rfl⟩ rfl ?_
 unfold sliceMade slicePicked
 unfold StrLaws.sliceText at a q
 rw[A,k]
 show Made.post (if ((1:Int) == 1&&(Builtin.Str.strSliceIndices lo hi 1 z.length).length == z.length)=true then _ else _) _ _
 split
 .rename_i c
  rw[Y22 c]at q
  exists .str z,H,I,⟨_,rfl⟩,q
 .rename_i c
  rw[Y20 c]at q a
  exists a,.str _,H,I.tok _,⟨_,rfl⟩,q
theorem Yp{D:Addr}{o:HO}(s:Same H H1)(a:H D=none):Same H (upd H1 D o):=fun b u e=>by
 rw[Qj (Qm e a)];exact s b u e
structure Walk{α:Type}(J:It)(H:Hp)(xs:List α)(val:α->V):Prop where
 go:∀i H1,Same H H1->i<xs.length->J.go i H1
 stop:∀H1,Same H H1->J.stop xs.length H1
 yl:∀i H1 v H2,Same H H1->J.yld i H1 v H2->i<xs.length->H2=H1/\∃x,xs[i]?=some x/\v=val x
theorem Ke{α:Type}{xs:List α}{val:α->V}(h:SqL K H a (xs.map val)):Walk (Itl K a) H xs val where
 go i H1 s hi:=⟨_,_,s.seq h,gE (by rw[jX];exact hi)⟩
 stop H1 s:=⟨_,s.seq h,by rw[jX];exact jJ _⟩
 yl i H1 v H2 s:=by
  rintro⟨rfl,b⟩ hi
  have e:=b _ (s.seq h)
  rw[yZ]at e
  obtain⟨x,ex,c⟩:=jZe.mp e
  exists rfl,x,ex,c.symm
theorem Qkh:Walk (ItS x) H x.cps.toList (fun c=>.str ⟨#[c]⟩) where
 go i H1 s hi:=by rw[jXa]at hi;exact hi
 stop H1 s:=by rw[jXa];exact jJ _
 yl i H1 v H2 s:=by
  rintro⟨rfl,c,a,b⟩ hi
  exists rfl,c,by rw[jZf];exact a,b
theorem Wa{α:Type}{xs:List α}{x:α}(h:xs[i]?=some x):xs.take (i+1)=xs.take i++[x]:=by
 obtain⟨a,e⟩:=jK.mp h
 rw[List.take_succ,h]
 rfl
theorem Qij{α β:Type}{xs:List α}{val:α->V}{D:Addr}{Q:Addr->Hp->Prop}(R:Hp->V->β->Prop)(f:α->β)(k:τ0=none::cs)(l:Walk J H xs val)(G:xs.length<sizeLine)(q:H D=none)
  (F:∀{H1 H2 v x},Same H H1->Same H1 H2->R H1 v x->R H2 v x) (u:∀{H1 v x zs},R H1 v x->R (upd H1 D (.lst zs)) v x)
  (C:∀x∈xs,∀H1,Same H H1->H1 D≠none->∀P:V->Hp->Prop,(∀v H2,Same H1 H2->R H2 v (f x)->P v H2)->te (some (val x)::cs) H1 P)
  (B:∀H1 ys,Same H H1->H1 D=some (.lst ys)->Paired (R H1) ys (xs.map f)->Q D H1) :
  LcW J D τ0 H (Vl 0) tYes te Q:=by
 subst k
 let j:Nat->St->List V->Hp->Prop:=fun i e ys H1=>∃v:Option V,e=v::cs/\H1 D=some (.lst ys)/\Same H H1/\i<=xs.length/\Paired (R H1) ys ((xs.take i).map f)
 refine Zi (n:=xs.length) j ?_ (fun i e ys H1 g h=>?_) (fun i e ys H1 g h=>?_) (fun e ys H1 h=>?_) ?_ ?_
 .exact⟨none,rfl,Qc,Qd q _,wJ _,.nil⟩
 .obtain⟨v,rfl,a,c,_,d⟩:=h
  exists a,?_
  have:=Paired.length d
  rw[jX,zZ]at this
  lia
 .obtain⟨v,rfl,a,c,_,d⟩:=h
  exact l.go i H1 c g
 .obtain⟨v,rfl,a,c,_,d⟩:=h
  exact l.stop H1 c
 .rintro i e ys H1 x H2 g ⟨v,rfl,a,c,_,d⟩ A
  obtain⟨rfl,y,s,rfl⟩:=l.yl i H1 x H2 c A g
  refine C y (kY s) _ c (by rw[a];exact Option.some_ne_none _) _ fun p t m r=>⟨m _ _ a,_,rfl,Qc,Yp (c.trans m) q,g,?_⟩
  rw[Wa s,yK]
  have E:Paired (R (upd t D (.lst (ys++[p])))) ys ((xs.take i).map f):=by
   clear a
   generalize ((xs.take i).map f)=bs at d
   generalize w:(HO.lst (ys++[p]))=o
   have:∀v b,R _ v b->R (upd t D o) v b:=fun v b h=>by rw[<-w];exact u (F c m h)
   clear w
   induction d with
   |nil=>exact .nil
   |cons z _ ih=>exact .cons (this _ _ z) ih
  exact Paired.snoc E (u r)
 .rintro e ys H1 ⟨v,rfl,a,c,_,d⟩
  rw[yW]at d
  exact B H1 ys c a d
theorem Qde{α:Type}{g:α->V}:∀{ys:List V} {xs:List α},Paired (fun v x=>v=g x) ys xs->ys=xs.map g
 |_,_,.nil=>rfl
 |_,_,.cons e t=>by rw[e,Qde t];rfl
theorem Wo{α β:Type}{xs:List α}{val:α->V}{D:Addr}{Q:Addr->Hp->Prop}(g:β->V)(f:α->β)(b:τ0=none::cs)(i:Walk J H xs val)(c:xs.length<sizeLine)(e:H D=none)
  (l:∀x∈xs,∀H1,Same H H1->∀P:V->Hp->Prop,(∀H2,Same H1 H2->P (g (f x)) H2)->te (some (val x)::cs) H1 P)
  (j:∀H1,Same H H1->H1 D=some (.lst ((xs.map f).map g))->Q D H1) :
  LcW J D τ0 H (Vl 0) tYes te Q :=
 Qij (fun _ v x=>v=g x) f b i c e (fun _ _ h=>h) (fun h=>h) (fun x n H1 a _ P h=>l x n H1 a P fun H2 k=>h _ H2 k rfl) fun H1 o a m d=>j H1 a (by rw[m,Qde d])
theorem le1(a b:Nat):(!decide (([b]:List Nat) < [a]))=decide (a<=b):=by
 rw[StrLaws.lt_cons_cons,StrLaws.lt_nil_nil,Bool.and_false,Bool.or_false]
 by_cases h:a<=b
 .rw[yX h,xK Om];rfl
 .rw[xK h,yX Om];rfl
end L2
namespace Nb
open PySem L2
abbrev sg(x:Str):List Nat:=x.cps.toList
theorem Kv{y:Str}(h:sg x=sg y):x=y:=Str.ext' (Array.toList_inj.mp h)
theorem Yr(x y:Str):sg (x++y)=sg x++sg y:=by
 show(x.cps++y.cps).toList=_
 rw[kXa]
theorem Xl(x:Str):(sg x).length=x.length:=jXa
theorem Qyg(c:Nat)(x y:Str)(r:List Str):sg (Str.join ⟨#[c]⟩ (x::y::r))=sg x++c::sg (Str.join ⟨#[c]⟩ (y::r)):=by
 show sg (x++⟨#[c]⟩++Str.join ⟨#[c]⟩ (y::r))=_
 rw[Yr,Yr,xY]
 rfl
theorem Qki(x y:Str):Txt.split x y≠[]:=by
 unfold Txt.split
 split
 .exact kZe _ _
 .split
  .exact kZe _ _
  .rw[StrLaws.partsBetween_eq]
   obtain⟨p,r,e⟩:=StrLaws.partsFrom_ne x y.length 0 (Builtin.Str.occurrences x y 0 x.length (x.length+1))
   rw[e]
   exact kZe _ _
theorem join_eq(a:Str)(b:List Str):Txt.join a b=Str.join a b:=StrLaws.glued_eq_join a b
theorem Xj(x y:Str):(x++y).length=x.length+y.length:=Str.length_append x y
theorem Qpr(x:Str):x++("":Str)=x:=by
 apply Kv
 rw[Yr]
 exact xV _
def numT(n:Int):Str:=Str.ofString (toString n)
theorem Qdf:∀(k m:Nat),m<10 ^ (k+1)->(Nat.toDigits 10 m).length<=k+1
 |0,m,h=>by
  rw[jKd Om]
  exact jJ _
 |k+1,m,h=>by
  by_cases b:m<10
  .rw[jKd b]
   exact Nat.le_add_left _ _
  .have a:m % 10<10:=Nat.mod_lt m Dc
   have t:Nat.toDigits 10 (m / 10)++Nat.toDigits 10 (m % 10)=Nat.toDigits 10 (10*(m / 10)+m % 10):=Nat.toDigits_append_toDigits Dc Om a
   rw[Nat.div_add_mod]at t
   have c:=Qdf k (m / 10) (by rw[Nat.pow_succ]at h;lia)
   rw[<-t,jZ,jKd a]
   show _+1<=_
   lia
theorem Qik(m:Nat):sg (numT ((m:Nat):Int))=(Nat.toDigits 10 m).map Char.toNat:=PySem.W.KIN.signs_num m
theorem Qmb(d:0<=n):∀c∈sg (numT n),48<=c/\c<=57:=by
 obtain⟨m,rfl⟩:=Int.eq_ofNat_of_zero_le d
 intro c b
 rw[Qik]at b
 obtain⟨f,a,e⟩:=zK.mp b
 have r:=PyProof.Rows.digit_range (Nat.isDigit_of_mem_toDigits Dc Dc a)
 rw[<-e]
 exact r
abbrev sWoR:Stmt:=top 25
abbrev sBeR:Stmt:=top 26
theorem joinOk_of{sep:Str}{ts:List Str}{b:Nat}(h:∀t∈ts,t.length<=b)(hz:ts.length*(b+sep.length)<=sizeLine):JoinOk sep ts=true:=by
 unfold JoinOk
 rw[StrLaws.joinTotal]
 have c:(ts.map (·.length)).sum<=ts.length*b:=by
  clear hz
  induction ts with
  |nil=>exact wJ _
  |cons t ts ih=>
   have e:=h t jY
   have d:=ih fun x a=>h x (kJ _ a)
   rw[zX,jZa,yQ,Nat.succ_mul]
   lia
 rw[Nat.mul_add]at hz
 show(!decide (_ > sizeLine))=true
 rw[xK Om]
 rfl
theorem Qdg(x:Str)(xs:List Str):Str.join "" (x::xs)=x++Str.join "" xs:=by
 cases xs with
 |nil=>exact(Qpr x).symm
 |cons y r=>
  show x ++ "" ++ _=_
  rw[Qpr]
theorem Qen(b:X.K=K):MtR X "str.join" (fun x xs H Q=>∃(sep:Str) (a:Addr) (ts:List Str),x=.str sep/\xs=[.ref a]/\SqL K H a (ts.map V.str)/\JoinOk sep ts=true/\Q (.str (Txt.join sep ts)) H):=by subst b;exact Qii
theorem Wp{n:Nat}:Walk (Itr 0 n) H (List.range n) (fun d:Nat=>V.int (d:Int)) where
 go i H1 s hi:=by rw[wX]at hi;exact hi
 stop H1 s:=by rw[wX];exact jJ _
 yl i H1 v H2 s:=by
  rintro⟨rfl,rfl⟩ hi
  rw[wX]at hi
  exists rfl,i,by rw[yZc hi],by rw[kYd]
theorem Qmc(b:X.K=K)(c:X.calm=true):CallR X (.builtin "sum") (fun xs H Q=>∃(a:Addr) (ns:List Int),xs=[.ref a]/\SqL K H a (ns.map V.int)/\Q (.int ns.sum) H):=by subst b;exact Vr c
def ofL(l:List Nat):Str:=⟨l.toArray⟩
theorem Kf(l:List Nat):sg (ofL l)=l:=rfl
theorem Qps(l:List Nat):(ofL l).length=l.length:=by rw[<-Xl,Kf]
def padL(x:Str):List Nat:=sg x++qg (13-x.length) 32
def sgnL(n b e:Int):List Nat:=(List.range n.toNat).map fun d:Nat=>if b<=(d:Int)/\(d:Int)<e then 35 else 46
def wrL(n:Int)(w v:Str)(b e:Int):List Nat:=padL w++sgnL n b e++32::sg v
def twoL(k:Int):List Nat:=sg (Txt.zfill (numT k) 2)
def brL(n:Int)(u:Nat->Int)(b:Str):List Nat:=padL b++(List.range n.toNat).flatMap fun d=>twoL (u d)
theorem Za(h:x.length<=12):(padL x).length=13:=by
 unfold padL
 rw[jZ,wY,Xl]
 lia
theorem Js(n b e:Int):(sgnL n b e).length=n.toNat:=by unfold sgnL;rw[jX,wX]
theorem Qbv(h:x.length<=12):sg (Txt.ljust x 13)=padL x:=by
 unfold Txt.ljust
 rw[Y20 Om]
 show((Array.replicate 0 32++x.cps++Array.replicate ((13:Int).toNat-x.length) 32)).toList=_
 rw[kXa,kXa,Array.toList_replicate,Array.toList_replicate]
 rfl
theorem Qah:∀xs:List Str,sg (Str.join "" xs)=xs.flatMap sg
 |[]=>rfl
 |x::xs=>by rw[Qdg,Yr,jYf,Qah xs]
theorem Qbw{b:Nat}:∀{xs:List Str},(∀t∈xs,t.length<=b)->(Str.join "" xs).length<=xs.length*b
 |[],_=>wJ _
 |x::xs,h=>by
  have d:=h x jY
  have c:=Qbw (b:=b) (xs:=xs) fun t a=>h t (kJ _ a)
  rw[Qdg,Xj,yQ,Nat.succ_mul]
  lia
theorem Qbx{α:Type}(f:α->Nat):∀l:List α,(l.flatMap fun x=>[f x])=l.map f
 |[]=>rfl
 |x::l=>by rw[jYf,zX,Qbx f l];rfl
def sgnS(b e:Int)(d:Nat):Str:=if b<=(d:Int)/\(d:Int)<e then "#" else "."
theorem Qai(n b e:Int):sg (Str.join "" ((List.range n.toNat).map (sgnS b e)))=sgnL n b e:=by
 rw[Qah,List.flatMap_map]
 have a:(fun d:Nat=>sg (sgnS b e d))=fun d:Nat=>[if b<=(d:Int)/\(d:Int)<e then 35 else 46]:=by
  funext d
  unfold sgnS
  split<;>rfl
 show(List.range n.toNat).flatMap (fun d:Nat=>sg (sgnS b e d))=_
 rw[a,Qbx]
 rfl
inductive Qvj(K:Fg)(C:Addr)(vs:List V)(H:Hp)(Q:VK)(E:XK):Prop|mk(p ch:Addr)(n:Int)(B:List BR)(w v:Str)(b l c:Int)(_:vs=[.ref p,.ref ch])(_:FcAt K C H p n B)(_:BookOk n B)(_:SqT K H ch [.str w,.str v,.int b])(_:.way w v l c∈B)(_:∀H',Same H H'->Q (.str (ofL (wrL n w v b (b+l)))) H'):Qvj K C vs H Q E
def Vg(B:List BR)(A:List Ch)(bn:Str)(d:Nat):Int:=(A.map (useR B bn (d:Int))).sum
inductive Qvk(K:Fg)(C:Addr)(vs:List V)(H:Hp)(Q:VK)(E:XK):Prop|mk(p tk:Addr)(n:Int)(B:List BR)(bn:Str)(A:List Ch)(_:vs=[.ref p,.str bn,.ref tk])(_:FcAt K C H p n B)(_:BookOk n B)(_:ChsAt K H tk A)(_:(∀c∈A,∃l k,BR.way c.1 c.2.1 l k∈B))(_:A.length<=400)(_:bn.length<=12)(_:∀H',Same H H'->Q (.str (ofL (brL n (Vg B A bn) bn))) H'):Qvk K C vs H Q E
theorem Qvl:∀{l:List Int},(∀x∈l,0<=x/\x<=99)->0<=l.sum/\l.sum<=(l.length:Int)*99
 |[],_=>⟨kYb _,kYb _⟩
 |x::l,h=>by
  have c:=h x jY
  have b:=Qvl (l:=l) fun y a=>h y (kJ _ a)
  rw[jZa,yQ]
  lia
theorem Qpt(b:WB n B){k:Fin 3}{t:Str}:0<=Yv B k w v t/\Yv B k w v t<=400*99:=by
 unfold Yv
 have i:=Qvl (l:=B.filterMap (Zz k w v t)) fun x d=>by
  obtain⟨r,c,e⟩:=xX.mp d
  have ok:=b.ok r c
  cases r with
  |use k' w' v' t' m=>
   have a:(if k'=k/\w'=w/\v'=v/\t'=t then some m else none)=some x:=e
   split at a
   .have f:1<=m/\m<=99:=ok
    have j:=Y5 a
    lia
   .cases a
  |_=>cases e
 have g:=xQ (Zz k w v t) B
 have h:=b.len
 lia
theorem Qvm(b:WB n B)(a:Str)(d:Int)(c:Ch):0<=useR B a d c/\useR B a d c<=400*99:=by
 unfold useR
 split
 .exact Qpt b
 .omega
theorem Qil{n:Int}{B:List BR}(b:WB n B)(a:Str)(d:Nat):∀{A:List Ch} {m:Nat},A.length<=m->0<=Vg B A a d/\Vg B A a d<=m*(400*99)
 |[],m,_=>⟨kYb _,by unfold Vg;simp;lia⟩
 |c::A,m,h=>by
  rw[yQ]at h
  obtain⟨k,rfl⟩:∃k,m=k+1:=⟨m-1,Om⟩
  have f:=Qvm b a d c
  have e:=Qil b a d (A:=A) (m:=k) Om
  unfold Vg at e⊢
  rw[zX,jZa]
  lia
theorem zf_len(d:∀c∈sg x,48<=c):(Txt.zfill x 2).length<=2+x.length:=by
 unfold Txt.zfill
 split
 .omega
 .unfold zfilled
  have b:∀k:Nat,(Builtin.Str.padded x k 0 48).length=k+x.length:=fun k=>by
   show(Array.replicate k 48++x.cps++Array.replicate 0 48).size=_
   rw[kKe,kKe,Array.size_replicate,Array.size_replicate]
   rfl
  have a:∀c,x.cps[0]?=some c->48<=c:=fun c e=>d c (by rw[<-jZf]at e;exact kY e)
  split
  .rename_i e;have:=a _ e;lia
  .rename_i e;have:=a _ e;lia
  .rw[b];show(2:Int).toNat-_+_<=_;lia
theorem Qyh{k:Int}(b:0<=k)(a:k<=999999999):(numT k).length<=9:=by
 obtain⟨m,rfl⟩:∃m:Nat,k=(m:Int):=⟨k.toNat,Om⟩
 rw[<-Xl,Qik,jX]
 exact Qdf 8 m Om
theorem two_len{k:Int}(a:0<=k)(b:k<=999999999):(Txt.zfill (numT k) 2).length<=11:=by
 have e:=zf_len (x:=numT k) fun c d=>(Qmb a c d).1
 have f:=Qyh a b
 lia
theorem Qyi{u:Nat->Int}{b:Str}(a:b.length<=12):Txt.ljust b 13++Str.join "" ((List.range n.toNat).map fun d=>Txt.zfill (numT (u d)) 2)=ofL (brL n u b):=by
 refine Kv ?_
 rw[Kf,Yr,Qbv a,Qah,List.flatMap_map]
 rfl
theorem Qpu{i:Int}(d:0<=i)(c:i<=999999999):i.natAbs.log2<1920:=by
 have b:i.natAbs<2 ^ 30:=by show i.natAbs<1073741824;lia
 by_cases a:i.natAbs=0
 .rw[a];decide
 .exact Nat.lt_trans ((Nat.log2_lt a).mpr b) Dc
theorem Jt(bk:BookOk n B)(h:BR.way w v l c∈B):NmOk w/\NmOk v:=⟨bk.gn _ h w jY,bk.gn _ h v (kJ _ jY)⟩
theorem Qyj{b e:Int}(a:w.length<=12):Txt.ljust w 13++Str.join "" ((List.range n.toNat).map (sgnS b e)) ++ " " ++ v=ofL (wrL n w v b e):=by
 refine Kv ?_
 rw[Kf,Yr,Yr,Yr,Qbv a,Qai]
 unfold wrL
 rw[xY]
 rfl
section
variable{w:World}
theorem scWoR:FnScope ["facts","choice","signs"] ["facts","choice"] (Qh sWoR):=Sc
theorem okWoR(S:mg "WIDTH"=some (.int 13 tW))(T:FcTxt K mg C)(GE:FnOk P w K mg base CX0 1 fE fdE ["self","choice"] (Qge K C))(Z:Binds K fdE ["self","choice"] [])(X:Meth K C "end_of" fE)(F:Fn K mg "work_row" sWoR)(M:Mg mg):Cal P w K mg base 3 "work_row" ["facts","choice"] (Qvj K C):=by
 refine Xv F scWoR (a:=fun f R A r s H W Q E hr h=>?_)
 obtain⟨p,k,n,B,w,v,b,l,c,rfl,m,bk,a,g,q⟩:=h
 refine⟨_,(Qg (Zv (i:=2) ["day","facts","choice"] [none,some 0,some 1] rfl scWoR.nd rfl (inl rfl) (Xs rfl M.range_ (Qa (Yq (pv 0) rfl) Qf)) (fun _ _ _=>(Z3 0 (show(["day","facts","choice"]:List Str).Nodup by decide +kernel))) (fun _ _ _=>Zg) (fun _ _ _=>(Qdn (Qdr Wz Qam (Qs (Wd (K:=K) rfl) (pv 2) Qe) (pv 0) (Zf (pv 1) T.cl X GE (hr.mono Dc) Z .nil Jx (Qa (pv 2) Qf))) Qq Qq)))
  (Qi (Qx (Qk Qz (Qk Qz (Qk Qz (Yt Y4 PySem.F.slot_str_ljust PySem.F.type_str_ljust Qem (Qs Yd (pv 1) Qe) (Qa (Jf (v:=.int 13) rfl S ⟨_,rfl⟩) Qf)) (Yt Y4 PySem.F.slot_str_join PySem.F.type_str_join (Qen (K:=K) rfl) Qq (Qa (pv 2) Qf))) Qq) (Qs Yd (pv 1) Qe))))),?_⟩
 obtain⟨I,lw,lb,lh,ls,la,ds,fs,ab,yh,aa,ya,o⟩:=id m
 exists"z"
 have n1:=bk.n1
 have U:=bk.n12
 obtain⟨u,Y⟩:=Jt bk g
 exists _,rfl,p,C,I,fs,_,rfl,o.hp,T.cl,T.nD,o.fD,n,rfl,Om,Om,fun D N=>?_
 refine Wo V.str (sgnS b (b+l)) rfl Wp (by rw[wX];lia) N (fun d hd G j P h=>?_) fun G j h1=>?_
 .refine⟨_,rfl,k,_,_,_,rfl,rfl,j.tup a,rfl,_,rfl,_,_,rfl,rfl,_,rfl,ite2 (fun x=>?_) (fun x=>?_)⟩
  .refine⟨_,rfl,p,I,fs,rfl,j _ _ o.hp,o.nE,_,rfl,p,k,n,B,w,v,b,l,c,rfl,m.same j,j.tup a,g,fun L J=>?_⟩
   exists _,_,rfl,rfl,_,rfl,ite2 (fun y=>?_) (fun y=>?_)
   .have e:=h L J
    rw[show sgnS b (b+l) d="#" by unfold sgnS;rw[Y22 ⟨kZ x,kZ y⟩]]at e
    exact e
   .have e:=h L J
    rw[show sgnS b (b+l) d="." by unfold sgnS;rw[Y20 (fun z=>y (yX z.2))]]at e
    exact e
  .refine⟨_,rfl,iteF ?_⟩
   have e:=h G (Same.refl _)
   rw[show sgnS b (b+l) d="." by unfold sgnS;rw[Y20 (fun z=>x (yX z.1))]]at e
   exact e
 .have lp:(Txt.ljust w 13).length=13:=by rw[<-Xl,Qbv u.2.1,Za u.2.1]
  have lj:(Str.join "" ((List.range n.toNat).map (sgnS b (b+l)))).length<=12:=by rw[<-Xl,Qai,Js];lia
  have lv:=Y.2.1
  exists _,rfl,k,_,_,_,rfl,rfl,j.tup a,rfl,rfl,w,13,rfl,rfl,Dk,?_
  exists rfl,_,rfl,_,D,_,rfl,rfl,Qb h1,joinOk_of (b:=1) (fun t O=>?_) (by rw[jX,wX];show _*1<=_;lia),?_
  .obtain⟨d,_,rfl⟩:=zK.mp O
   unfold sgnS
   split<;>decide +kernel
  rw[join_eq]
  exists _,_,rfl,rfl,Om,?_
  exists _,_,rfl,rfl,by rw[Xj];show _+1<=_;lia,?_
  exists _,rfl,k,_,_,_,rfl,rfl,j.tup a,rfl,?_
  exists _,_,rfl,rfl,by rw[Xj,Xj];show _+_+1+_<=_;lia,?_
  rw[Qyj u.2.1]
  exact q G j
theorem scBeR:FnScope ["facts","bench","taken","used"] ["facts","bench","taken"] (Qh sBeR):=Sc
theorem okBeR(hW:mg "WIDTH"=some (.int 13 tW))(T:FcTxt K mg C)(GU:FnOk P w K mg base CX0 2 fU fdU ["self","choice","bench","day"] (Qie K C))(bU:Binds K fdU ["self","choice","bench","day"] [])(mU:Meth K C "used_by" fU)(F:Fn K mg "bench_row" sBeR)(M:Mg mg):Cal P w K mg base 4 "bench_row" ["facts","bench","taken"] (Qvk K C):=by
 refine Xv F scBeR (a:=fun f aa A I s H U Q E hr h=>?_)
 obtain⟨p,X,n,B,a,e,rfl,u,bk,R,x,L,m,q⟩:=h
 refine⟨_,(Qg (Zv (i:=3) ["day","facts","bench","taken"] [none,some 0,some 1,some 2] rfl scBeR.nd rfl (inl rfl) (Xs rfl M.range_ (Qa (Yq (pv 0) rfl) Qf)) (fun _ _ _=>(Z3 0 (show(["day","facts","bench","taken"]:List Str).Nodup by decide +kernel))) (fun _ _ _=>Zg) (fun _ _ _=>(Qr (Qmc (K:=K) rfl rfl) rfl M.sum Qjf (Qa (Yh ["choice","day","facts","bench"] [none,some 0,some 1,some 2] rfl (Qsl (K:=K) rfl (pv 3)) (fun _ _ _=>(Z3 0 (show(["choice","day","facts","bench"]:List Str).Nodup by decide +kernel))) (fun _ _ _=>Zg) (fun _ _ _=>(Zf (pv 2) T.cl mU GU (hr.mono Dc) bU .nil Jx (Qa (pv 0) (Qa (pv 3) (Qa (pv 1) Qf)))))) Qf))))
  (Qi (Qx (Qk Qz (Yt Y4 PySem.F.slot_str_ljust PySem.F.type_str_ljust Qem (pv 1) (Qa (Jf (v:=.int 13) rfl hW ⟨_,rfl⟩) Qf)) (Yt Y4 PySem.F.slot_str_join PySem.F.type_str_join (Qen (K:=K) rfl) Qq (Qa (Yh ["many"] [none] rfl (Xd (pv 3)) (fun _ _ _=>(Z3 0 Z2)) (fun _ _ _=>Zg) (fun _ _ _=>(pe_bmK (K:=K) rfl Y4 PySem.F.slot_str_zfill PySem.F.type_str_zfill Qtv (Yg Qgn rfl M.str_ Quy (Qa (pv 0) Qf)) (Qa Qe Qf)))) Qf)))))),?_⟩
 obtain⟨S,lw,lb,lh,ls,la,ds,fs,ae,yh,ad,ya,G⟩:=id u
 exists"z"
 have n1:=bk.n1
 have ab:=bk.n12
 exists _,rfl,p,C,S,fs,_,rfl,G.hp,T.cl,T.nD,G.fD,n,rfl,Om,Om,fun D Z=>?_
 refine Wo V.int (fun d:Nat=>Vg B e a d) rfl Wp (by rw[wX];lia) Z (fun d hd H1 o P h=>?_) fun H1 o Y=>?_
 .obtain⟨U,N,ac⟩:=(R.same o).ex
  exists _,rfl,X,rfl,⟨_,N⟩,fun O g=>?_
  refine lc_chs (f:=useR B a (d:Int)) rfl (R.same o) g (fun c t r hc j J P2 y=>?_) fun r j y=>?_
  .obtain⟨l,k,hw⟩:=x c hc
   exists _,rfl,p,S,fs,rfl,(o.trans j) _ _ G.hp,G.nU,_,rfl,_,rfl,_,rfl,p,t,n,B,c.1,c.2.1,a,c.2.2,l,k,(d:Int),rfl,u.same (o.trans j),bk.wb,J,hw,fun H3 s3=>y H3 s3
  .exact⟨O,_,rfl,Qb y,h r j⟩
 .have lp:(Txt.ljust a 13).length=13:=by rw[<-Xl,Qbv m,Za m]
  have z:∀d:Nat,0<=Vg B e a d/\Vg B e a d<=999999999:=fun d=>by
   have:=Qil bk.wb a d L
   lia
  exists _,rfl,rfl,a,13,rfl,rfl,Dk,?_
  exists rfl,_,rfl,D,rfl,⟨_,Qb Y⟩,fun O g=>?_
  refine Wo V.str (fun d:Nat=>Txt.zfill (numT (Vg B e a d)) 2) rfl (Ke (xs:=List.range n.toNat) (val:=fun d:Nat=>V.int (Vg B e a d)) (Qb (by rw[Y,kQa];rfl))) (by rw[wX];lia) g (fun d hd r j P h=>?_) fun r j y=>?_
  .refine⟨_,rfl,.inr ⟨_,rfl,Qpu (z d).1 (z d).2,?_⟩⟩
   exists rfl,_,2,rfl,rfl,Dk,h r (Same.refl _)
  .have W:∀t∈(List.range n.toNat).map (fun d:Nat=>Txt.zfill (numT (Vg B e a d)) 2),t.length<=11:=fun t J=>by
    obtain⟨d,_,rfl⟩:=zK.mp J
    exact two_len (z d).1 (z d).2
   exists _,O,_,rfl,rfl,Qb y,joinOk_of (b:=11) W (by rw[jX,wX];show _*11<=_;lia),?_
   rw[join_eq]
   have lj:(Str.join "" ((List.range n.toNat).map fun d:Nat=>Txt.zfill (numT (Vg B e a d)) 2)).length<=12*11:=by
    have:=Qbw W
    rw[jX,wX]at this
    lia
   exists _,_,rfl,rfl,Om,?_
   rw[Qyi m]
   exact q r (o.trans j)
end
theorem Qkj:∀{ys:List V} {A:List Ch},ChsAre K H ys A->∃zs:List (Addr×Ch),ys=zs.map (fun z=>V.ref z.1)/\A=zs.map (·.2)/\∀z∈zs,SqT K H z.1 [.str z.2.1,.str z.2.2.1,.int z.2.2.2]:=by
 intro ys A h
 induction h with
 |nil=>exists [],rfl,rfl,fun _ h=>nomatch h
 |@cons v c ys A hv _ ih=>
  obtain⟨zs,a,b,h⟩:=ih
  obtain⟨t,e,d⟩:=hv
  exists (t,c)::zs,by rw[zX,a,e],by rw[zX,b],fun z hz=>?_
  rcases kK.mp hz with rfl | hz
  .exact d
  .exact h z hz
def Qcn(B:List BR)(pl:Z7):List Ch:=(wks B).map fun w=>(w,look pl w)
def WayC(n:Int)(B:List BR)(A:List Ch):Prop:=∀c∈A,∃l k,BR.way c.1 c.2.1 l k∈B/\0<=c.2.2/\c.2.2+l<=n
theorem Qtw(bk:BookOk n B)(b:PlanFor n B pl)(i:B.flatMap (gW pl)=[]):WayC n B (Qcn B pl):=by
 intro c h
 obtain⟨w,e,rfl⟩:=zK.mp h
 obtain⟨l,k,d,a,g,f⟩:=b.get bk.wb (Zq i (wks_mem.mp e))
 exists l,k,a,g,f
def endC(B:List BR)(c:Ch):Int:=c.2.2+lenB B c.1 c.2.1
def wrC(n:Int)(B:List BR)(c:Ch):Str:=ofL (wrL n c.1 c.2.1 c.2.2 (endC B c))
def brC(n:Int)(B:List BR)(A:List Ch)(b:Str):Str:=ofL (brL n (Vg B A b) b)
def nlS:Str:="\n"
def Qyk(rows:List Str):Str:=Str.join "" (rows.map (· ++ nlS))
theorem wr_len(bk:BookOk n B){c:Ch}{k:Int}(h:BR.way c.1 c.2.1 l k∈B):(wrC n B c).length<=38:=by
 obtain⟨a,d⟩:=Jt bk h
 have b:=Za a.2.1
 have e:=d.2.1
 have f:=bk.n12
 unfold wrC
 rw[Qps]
 unfold wrL
 rw[jZ,jZ,yQ,b,Js,Xl]
 lia
theorem Qaj(bk:BookOk n B){b:Str}(h:b∈bns B):NmOk b:=by
 obtain⟨r,a,e⟩:=xX.mp h
 cases r with
 |bench b' m=>cases e;exact bk.gn _ a b jY
 |_=>cases e
theorem idx_hi(a:Nat){j:Int}(h:(a:Int)<=j):Builtin.Str.strSliceIndices none (some j) 1 a=Builtin.Str.strSliceIndices none (some (a:Int)) 1 a:=by
 have b:(if j<0 then j+(a:Int)else j)=j:=Y20 Om
 have d:(if (a:Int)<0 then(a:Int)+(a:Int)else(a:Int))=(a:Int):=Y20 Om
 have c:max (0:Int) (min j (a:Int))=max (0:Int) (min (a:Int) (a:Int)):=Om
 show sliceRange _ (if (1:Int) > 0 then max 0 (min (if j<0 then j+(a:Int)else j) (a:Int))else _) _=sliceRange _ (if (1:Int) > 0 then max 0 (min (if (a:Int)<0 then(a:Int)+(a:Int)else(a:Int)) (a:Int))else _) _
 rw[b,d,c];rfl
theorem idx_lo(a:Nat){j:Int}(h:(a:Int)<=j):Builtin.Str.strSliceIndices (some j) none 1 a=Builtin.Str.strSliceIndices (some (a:Int)) none 1 a:=by
 have b:(if j<0 then j+(a:Int)else j)=j:=Y20 Om
 have d:(if (a:Int)<0 then(a:Int)+(a:Int)else(a:Int))=(a:Int):=Y20 Om
 have c:max (0:Int) (min j (a:Int))=max (0:Int) (min (a:Int) (a:Int)):=Om
 show sliceRange (if (1:Int) > 0 then max 0 (min (if j<0 then j+(a:Int)else j) (a:Int))else _) _ _=sliceRange (if (1:Int) > 0 then max 0 (min (if (a:Int)<0 then(a:Int)+(a:Int)else(a:Int)) (a:Int))else _) _ _
 rw[b,d,c];rfl
theorem Qtx(x:Str)(k:Nat):sg (qf x none (some (k:Int)))=(sg x).take k:=by
 have e:x.cps.toList.length=x.length:=Xl x
 by_cases h:k<=x.length
 .rw[StrLaws.sliceText_to ⟨Om,by rw[e];lia⟩]
  show((x.cps.toList.drop 0).take _)=_
  rw[jJb]
  congr 1
 .have a:qf x none (some (k:Int))=qf x none (some (x.length:Int)):=by
   unfold StrLaws.sliceText
   rw[idx_hi x.length Om]
  rw[a,StrLaws.sliceText_to ⟨Om,by rw[e];exact kYb _⟩]
  show((x.cps.toList.drop 0).take _)=_
  rw[jJb,zW (by rw[e];lia),zW (by rw[Xl];lia)]
theorem Qeo(x:Str)(k:Nat):sg (qf x (some (k:Int)) none)=(sg x).drop k:=by
 have e:x.cps.toList.length=x.length:=Xl x
 by_cases h:k<=x.length
 .rw[StrLaws.sliceText_from ⟨Om,by rw[e];lia⟩]
  show((x.cps.toList.drop _).take _)=_
  rw[zW (by rw[jXb];lia)]
  try congr 1
 .have a:qf x (some (k:Int)) none=qf x (some (x.length:Int)) none:=by
   unfold StrLaws.sliceText
   rw[idx_lo x.length Om]
  rw[a,StrLaws.sliceText_from ⟨Om,by rw[e];exact kYb _⟩]
  show((x.cps.toList.drop _).take _)=_
  rw[kZa (l:=sg x) (by rw[Xl];lia),kZa (by rw[e];lia)]
  exact List.take_nil
end Nb
namespace L2
open PySem PySem.Spec PyProof.Rows
def TrG(h base:Heap)(e:Addr)(G:Obj->Prop)(fl:Value):Prop:=∃oe vs T oT ts,h.get? e=some oe/\G oe/\oe.data=.fields vs/\vs[1]?=some (.ref T)/\base.get? T=none/\T≠e/\h.get? T=some oT/\oT.data=.fields ts/\ts[3]?=some fl
def Ko(G:Obj->Prop):Prop:=∀o v,G o->G (o.mapFields (·.setIfInBounds 1 v))
section
variable{env:Env}{L e:Addr}{oe:Obj}{vs:Array Value}{G:Obj->Prop}
theorem Qvn{hd:Value}{nx:Bool}{Q:Unit->Shared->Prop}(u:Ko G)(R:A.frames=some (env::outer))(fs:s.heap.FunFrames base (env::outer))(N:env.frame=some L)(he:s.heap.get? e=some oe)(st:base.StaysIn s.heap)(r:base.get? e=none)(l:oe.data=.fields vs)(two:1<vs.size)(g:G oe)
  (q:∀h',base.StaysIn h'->h'.FunFrames base (env::outer)->TrG h' base e G (rawInt L)->s.heap.UpToSlots h'->Q () { s with heap:=h' }) :
  wpAny M A (do let a ← frameOf env;let pl ← entryPlaceOf L nx;let b ← EntryCells.newEntry hd a .none (rawInt L) .none pl;setField (.ref e) 1 b) Q E s:=by
 have p:e∉(env::outer).filterMap (·.frame):=fun z=>by
  obtain⟨_,o,D,k⟩:=fs.mem z
  rw[he]at D
  cases D
  exact k vs l
 refine jQ (wpAny_frameOf_fun R fs N fun c m=>jQ (wpAny_entryPlaceOf fun pl I=>?_))
 unfold EntryCells.newEntry newFields
 refine jQ (Y26 ?_ (I.sizeOk5 _ _ _ _ _))
 have B:c.get? e=some oe:=(m.2.1 e p).trans he
 have t:base.StaysIn c:=fun b o z=>(m.2.1 b fun y=>by rw[(fs.mem y).1]at z;cases z).trans (st b o z)
 have v:c.objs.size≠e:=kYc (zQ B)
 obtain⟨i,j⟩:∃i:Obj,i={ cls:=.type "traceback",dict:=none,data:=.fields ([hd,.ref L,.none,rawInt L,.none]++(if pl.isEmpty then qg 6 Value.none else pl)).toArray }:=⟨_,rfl⟩
 have F:i.isFreed=false:=by rw[j];rfl
 have n:i.data=.fields ([hd,.ref L,.none,rawInt L,.none]++(if pl.isEmpty then qg 6 Value.none else pl)).toArray:=by rw[j]
 rw[<-j]
 have x:=jW i B
 have K:=yJ c F
 obtain⟨S,P⟩:∃f:Obj->Obj,f=Obj.mapFields (·.setIfInBounds 1 (Value.ref c.objs.size)):=⟨_,rfl⟩
 refine Y53 x l two ?_
 show Q () { s with heap:=(c.push i).update e (Obj.mapFields (·.setIfInBounds 1 (Value.ref c.objs.size))) }
 have w:=Y42 l (·.setIfInBounds 1 (Value.ref c.objs.size))
 have O:=jXf (Obj.mapFields (·.setIfInBounds 1 (Value.ref c.objs.size))) x (Y61 w)
 have H:=(jXd (c.push i) (Obj.mapFields (·.setIfInBounds 1 (Value.ref c.objs.size))) (Ne.symm v)).trans K
 have keep:∀b o,b≠e->c.get? b=some o->((c.push i).update e (Obj.mapFields (·.setIfInBounds 1 (Value.ref c.objs.size)))).get? b=some o:=fun b o J z=>(jXd _ _ (Ne.symm J)).trans (jW _ z)
 have d:∀b o,s.heap.get? b=some o->(∀ws,o.data≠.fields ws)->b≠e:=fun b o z k y=>by
  rw[y,he]at z
  cases z
  exact k vs l
 refine q _ (fun b o z=>keep b o (fun y=>by rw[y,r]at z;cases z) (t b o z)) (fs.of_keeps fun b o z k=>?_) ⟨_,_,_,i,_,O,u _ _ g,w,by rw[yYb two],t.fresh,v,H,n,?_⟩ fun b o z k=>?_
 .obtain⟨C,y⟩:=m.2.2 b o z
  exists _,keep b _ (d b o z k) y,rfl
 .rw[List.getElem?_toArray];rfl
 .obtain⟨C,y⟩:=m.2.2 b o z
  exists C,keep b _ (d b o z k) y
theorem Qim{Q:Unit->Shared->Prop}(u:Ko G)(d:A.frames=some (env::outer))(fs:s.heap.FunFrames base (env::outer))(b:env.frame=some L)(he:s.heap.get? e=some oe)(st:base.StaysIn s.heap)(a:base.get? e=none)(c:oe.data=.fields vs)(one:vs[1]?=some .none)(g:G oe)
  (q:∀h',base.StaysIn h'->h'.FunFrames base (env::outer)->TrG h' base e G (rawInt L)->s.heap.UpToSlots h'->Q () { s with heap:=h' }):wpAny M A (noteFrame (.ref e) env) Q E s:=by
 unfold noteFrame
 simp only[b]
 refine jQ (Y23 he c one ?_)
 rw[Y20 Dc]
 exact Qvn u d fs b he st a c (jKb.mp one).1 g q
theorem Qdh{Q:Unit->Shared->Prop}(u:Ko G)(D:A.frames=some (env::outer))(fs:s.heap.FunFrames base (env::outer))(n:env.frame=some L)(t:TrG s.heap base e G .none)(st:base.StaysIn s.heap)(k:base.get? e=none)
  (q:∀h',base.StaysIn h'->h'.FunFrames base (env::outer)->TrG h' base e G (rawInt L)->s.heap.UpToSlots h'->Q () { s with heap:=h' }):wpAny M A (noteFrame (.ref e) env) Q E s:=by
 obtain⟨I,H,T,F,B,m,g,l,one,p,v,j,i,d⟩:=t
 have a:∀b,b≠T->(s.heap.update T (Obj.mapFields (·.setIfInBounds 3 Value.none))).get? b=s.heap.get? b:=fun b z=>jXd _ _ (Ne.symm z)
 have c:∀b o,s.heap.get? b=some o->(∀ws,o.data≠.fields ws)->b≠T:=fun b o z f y=>by
  rw[y,j]at z
  cases z
  exact f B i
 unfold noteFrame
 simp only[n]
 refine jQ (Y23 m l one ?_)
 rw[Y22 (show(Value.ref T != Value.none)=true from rfl)]
 refine jQ (Y23 j i d ?_)
 rw[Y20 (show ¬((Value.none == rawInt L)=true)by unfold rawInt;exact yY)]
 refine jQ (Y53 j i (jKb.mp d).1 ?_)
 refine Qvn u D (fs.of_keeps fun b o z f=>⟨o,(a b (c b o z f)).trans z,rfl⟩) n ((a e (Ne.symm v)).trans m) (fun b o z=>(a b fun y=>by rw[y,p]at z;cases z).trans (st b o z)) k l (jKb.mp one).1 g fun h' r w C x=>?_
 exact q h' r w C fun b o z f=>x b o ((a b (c b o z f)).trans z) f
theorem Qep{l:List Env}{fl:Value}{Q:Unit->Shared->Prop}(st:base.StaysIn s.heap)(fs:s.heap.FunFrames base l)(t:TrG s.heap base e G fl)
  (q:∀h',base.StaysIn h'->h'.FunFrames base l->TrG h' base e G .none->s.heap.UpToSlots h'->Q () { s with heap:=h' }):wpAny M A (setFlight (.ref e) none) Q E s:=by
 obtain⟨v,r,T,w,u,m,g,n,one,p,k,j,i,d⟩:=t
 have sz:=(jKb.mp d).1
 have a:∀b,b≠T->(s.heap.update T (Obj.mapFields (·.setIfInBounds 3 Value.none))).get? b=s.heap.get? b:=fun b z=>jXd _ _ (Ne.symm z)
 have c:∀b o,s.heap.get? b=some o->(∀ws,o.data≠.fields ws)->b≠T:=fun b o z f y=>by
  rw[y,j]at z
  cases z
  exact f u i
 unfold setFlight
 refine jQ (Y23 m n one ?_)
 rw[Y22 (show(Value.ref T != Value.none)=true from rfl)]
 refine Y53 j i sz (q (s.heap.update T (Obj.mapFields (·.setIfInBounds 3 Value.none))) (fun b o z=>(a b fun y=>by rw[y,p]at z;cases z).trans (st b o z)) (fs.of_keeps fun b o z f=>⟨o,(a b (c b o z f)).trans z,rfl⟩) ?_ fun b o z f=>⟨o.slots,(a b (c b o z f)).trans z⟩)
 exists v,r,T,_,_,(a e (Ne.symm k)).trans m,g,n,one,p,k,jXf _ j (Y61 (Y42 i _)),Y42 i _,by rw[yYb sz]
def FlyG(base:Heap)(l:List Env)(e:Addr)(G:Obj->Prop)(h:Heap):Prop:=base.StaysIn h/\base.get? e=none/\h.FunFrames base l/\TrG h base e G .none
theorem FlyG.there{l:List Env}{h:Heap}(x:FlyG base l e G h):∃ob vs,h.get? e=some ob/\G ob/\ob.data=.fields vs:=by obtain⟨_,_,_,a,vs,_,_,_,b,g,d,_⟩:=x;exists a,vs,b,g,d
theorem Qmd{Q:Unit->Shared->Prop}(u:Ko G)(r:A.frames=some (env::outer))(l:env.frame=some L)(x:FlyG base (env::outer) e G s.heap)(q:∀h',FlyG base outer e G h'->s.heap.UpToSlots h'->Q () { s with heap:=h' }):wpAny M A (leaving env (.ref e)) Q E s:=by
 obtain⟨n,a,c,o⟩:=x
 unfold leaving
 refine jQ (Qdh u r c l o n a fun t p j d b=>Qep p j d fun g i f m k=>?_)
 exact q g ⟨i,a,f.2.2,m⟩ (b.trans k)
theorem Qeq{Q:Unit->Shared->Prop}(u:Ko G)(o:A.frames=some (env::outer))(l:env.frame=some L)(fs:s.heap.FunFrames base (env::outer))(he:s.heap.get? e=some oe)(st:base.StaysIn s.heap)(a:base.get? e=none)(m:oe.data=.fields vs)(one:vs[1]?=some .none)(g:G oe)(q:∀h',FlyG base outer e G h'->s.heap.UpToSlots h'->Q () { s with heap:=h' }):wpAny M A (leaving env (.ref e)) Q E s:=by
 unfold leaving
 refine jQ (Qim u o fs l he st a m one g fun r p j f b=>Qep p j f fun c i d n k=>?_)
 exact q c ⟨i,a,d.2.2,n⟩ (b.trans k)
end
abbrev exT(us:List Value):Obj:=⟨.type "tuple",none,.seq us.toArray,#[]⟩
abbrev exE(C n:Addr):Obj:=⟨.ref C,none,.fields #[.ref n,.none,.none,.none,.bool false,.none],#[]⟩
abbrev exH(h:Heap)(C:Addr)(us:List Value):Heap:=(h.push (exT us)).push (exE C h.objs.size)
theorem Qby{h:Heap}(e:h.get? b=some o):(exH h C us).get? b=some o:=jW _ (jW _ e)
theorem Qpv{h:Heap}:(exH h C us).get? (h.objs.size+1)=some (exE C h.objs.size):=Heap.get?_push_at (by simp) rfl
section
variable{w:World}{a:Str}{b:Str}{N:Addr}{x1 x2 x3:List Value}{x4:Bool}{x5:List Str}{x6:List Value}{x7:Bool}{x8:Option Bool}{x9:Option Addr}{y0 y1 y2 y3 y5:Option Value}{T nw ini:String}{m:Z9}
theorem Qpw{Q:Fin->Shared->Prop}(F:ExcBaseFacts T nw ini x3)(l:OwnTail s.heap x3 x2)(j:s.heap.get? C=some (excClassObj a b C N x1 x2 x4 x5 x6 x7 x8 x9 y0 y1 y2 y3 y5 nw))(u:s.heap.Ns N m)(x:m "__init__"=some (.ref f))(v:s.heap.get? f=some fo)(p:fo.cls=.type "function")(t:us.length<=sizeLine)
  (q:qe P w A (call (.ref f) (.ref ((qa s)+1)::us)) (fun r s'=>r=.none/\Q (.done (.ret (.ref ((qa s)+1)))) s') E { s with heap:=exH s.heap C us }):qe P w A (Builtin.«type.__call__» ⟨.ref C::us,[]⟩) Q E s:=by
 obtain⟨h,g,d,k,n⟩:=s
 dsimp only at *
 repeat first
  |with_reducible refine Y27 j ?_
  |with_reducible refine wpAny_madeBy_exc j ?_
  |wp_step
 refine codeAny_call_builtin_code (Code.quiet_builtin _ F.quiet) (wpAny_check_new_subT F l j (codeAny_exc_new_subT F l j ?_ t))
 show qe P w A _ _ E ⟨exH h C us,g,d,k,n⟩
 have one:=Qpv (h:=h) (C:=C) (us:=us)
 have i:=Qby (C:=C) (us:=us) j
 have c:(Value.ref C::x2).contains (.ref C)=true:=by rw[kYa,beq_self_eq_true,Bool.true_or]
 unfold isInstance
 repeat first
  |with_reducible refine Y27 one ?_
  |(with_reducible refine wpAny_isSubtype_exc i ?_;rw[c])
  |wp_step
 refine wpAny_typeLookup_tail i (let ⟨o,es,ep,e,r⟩:=u;⟨o,es,ep,Qby e,r⟩) (l.keeps fun _ _ e=>Qby e) F.mroIs F.init.lookup ?_
 rw[x]
 refine Y30 (jQ ?_)
 unfold bindSpecial
 refine jQ (Y40 (T:="function") ⟨_,Qby v,p⟩ ?_)
 rw[Y22 Dc]
 refine kQ (jQ (Y29 q (fun r s' z=>?_) fun _ _ z=>z))
 obtain⟨rfl,z⟩:=z
 wp_walk
 exact z
theorem Qpx{Q:VP}(F:ExcBaseFacts T nw ini x3)(e:OwnTail s.heap x3 x2)(c:s.heap.get? C=some (excClassObj a b C N x1 x2 x4 x5 x6 x7 x8 x9 y0 y1 y2 y3 y5 nw))(l:s.heap.Ns N m)(o:m "__init__"=some (.ref f))(n:s.heap.get? f=some fo)(i:fo.cls=.type "function")(j:us.length<=sizeLine)
  (q:qe P w (A.under (.builtin "type.__call__" ⟨.ref C::us,[]⟩)) (call (.ref f) (.ref ((qa s)+1)::us)) (fun r s'=>r=.none/\Q (.ref ((qa s)+1)) s') E { s with heap:=exH s.heap C us }):qe P w A (call (.ref C) us) Q E s:=by
 have p:=tc_lookup
 have v:=tc_bind (.ref C)
 have u:s.TypeIs (.ref C) "type":=⟨_,c,rfl⟩
 obtain⟨h,g,d,k,t⟩:=s
 dsimp only at *
 refine wpAny_call (codeAny_of_tree ?_)
 show wpAny _ _ (callAny (.ref C) _) _ _ _
 repeat any_goals first
  |assumption
  |with_reducible refine Y27 c ?_
  |wp_step
 exists rfl,codeAny_call_builtin_at (Code.quiet_builtin _ Dk) entry_typeCall (wpAny_check_type_call_sub c (Qpw F e c l o n i j q))
end
inductive TailN (h:Heap) (ns:List Str) (z:List Value):List Value->Prop
 |base:TailN h ns z z
 |own {a:Addr} {c:Value} {dd:Option Addr} {cd:ClassData} {sl:Array (Option Value)} {m:Z9} {l:List Value} (e:h.get? a=some ⟨c,dd,.cls cd,sl⟩) (hN:h.Ns cd.ns m) (no:∀n∈ns,m n=none) (t:TailN h ns z l):TailN h ns z (.ref a::l)
theorem TailN.own_tail{h:Heap}{z l:List Value}(t:TailN h ns z l)(a:("__init__":Str)∈ns):OwnTail h z l:=by
 induction t with
 |base=>exact .base
 |own e hN no _ ih=>exact .own e hN (no _ a) ih
theorem TailN.has{h:Heap}{z l:List Value}(t:TailN h ns z l){X:String}(a:z.contains (.type X)=true):l.contains (.type X)=true:=by
 induction t with
 |base=>exact a
 |own _ _ _ _ ih=>rw[kYa,ih,Bool.or_true]
theorem TailN.refuse{h:Heap}{z l:List Value}(t:TailN h ns z l){v:Value}{n:Str}(hz:refuseLoop v n z=pure ()):refuseLoop v n l=pure ():=by
 induction t with
 |base=>exact hz
 |own _ _ _ _ ih=>rw[refuseLoop_ref];exact ih
section
variable{w:World}{a:Str}{b:Str}{N x:Addr}{x1 x2 x3:List Value}{x4:Bool}{x5:List Str}{x6:List Value}{x7:Bool}{x8:Option Bool}{x9:Option Addr}{y0 y1 y2 y3 y5:Option Value}{T nw sa ow:String}{m:Z9}{n:Str}{v:Value}
theorem Qin{l z:List Value}{y:Option Value}(t:TailN s.heap ns z l)(a:n∈ns)(hz:lookupAlong z n=pure y)(q:Q y s):wpAny M A (lookupAlong l n) Q E s:=by
 induction t with
 |base=>rw[hz];exact kQ q
 |own e hN no _ ih=>
  rw[lookupAlong_cons]
  refine jQ (wpAny_classOwn_cls e hN ?_)
  rw[no _ a]
  exact ih
theorem Ww{y:Option Value}(d:s.heap.get? C=some (excClassObj a b C N x1 x2 x4 x5 x6 x7 x8 x9 y0 y1 y2 y3 y5 nw))(f:s.heap.Ns N m)(t:TailN s.heap ns x3 x2)(g:n∈ns)(e:mroOf (.type T)=pure x3)(c:typeLookup (.type T) n=pure y)(q:Q (match m n with | some u=>some u | none=>y) s):wpAny M A (typeLookup (.ref C) n) Q E s:=by
 rw[typeLookup_eq,e]at c
 rw[typeLookup_eq]
 refine jQ (wpAny_mroOf_exc d ?_)
 rw[lookupAlong_cons]
 refine jQ (wpAny_classOwn_exc d f ?_)
 revert q
 cases m n with
 |some u=>exact fun q=>kQ q
 |none=>exact fun q=>Qin t g c q
theorem Qpy{nv:Value}{Q:Unit->Shared->Prop}(F:StoreFacts T x3 sa ow)(e:s.heap.get? C=some (excClassObj a b C N x1 x2 x4 x5 x6 x7 x8 x9 y0 y1 y2 y3 y5 nw))(t:TailN s.heap ns x3 x2)(g:s.heap.get? x=some o)(f:o.cls=.ref C)(q:Q () s):wpAny M A (checkBuiltinCall sa ⟨[.ref x,nv,v],[]⟩) Q E s:=by
 have d:(Value.ref C::x2).contains (.type ow)=true:=by rw[kYa,t.has F.hasOwner,Bool.or_true]
 have c:=F.args (.ref x) nv v
 simp only[checkBuiltinCall,F.kind,F.split]
 refine jQ ?_
 unfold isInstance
 repeat first
  |(with_reducible refine Y27 g ?_;rw[f])
  |(with_reducible refine wpAny_isSubtype_exc e ?_;rw[d])
  |wp_step
 revert c
 unfold argsOk
 cases Manifest.signature? sa with
 |none=>exact fun _=>kQ q
 |some sg=>exact fun c=>Y32 c q
abbrev wD(h:Heap)(x:Addr):Heap:=(h.push ⟨.type "dict",none,.dict #[],#[]⟩).update x fun o=>{ o with dict:=some h.objs.size }
theorem wD_new{h:Heap}(a:h.get? x=some o):(wD h x).Ns1 h.objs.size fun _=>none :=
 Heap.Ns1.of_empty ⟨_,#[],_,(Heap.get?_update_ne _ _ _ _ (kYc (zQ a))).trans (Heap.get?_push_at rfl rfl),rfl,fun e b=>Y21 b (by simp),fun _=>rfl⟩
theorem Qgo{fs:Array Value}{Q:Fin->Shared->Prop}(F:StoreFacts T x3 sa ow)(l:s.heap.get? C=some (excClassObj a b C N x1 x2 true x5 x6 x7 x8 x9 y0 y1 y2 y3 y5 nw))(t:TailN s.heap ns x3 x2)(G:s.heap.Ns N m)(M:n∈ns)(K:m n=none)(B:typeLookup (.type T) n=pure none)(i:s.heap.get? x=some ⟨.ref C,none,.fields fs,sl⟩)
  (q:∀h tk,h.Ns1 (qa s) (fun y=>if y=n then some v else none)->h.get? x=some ⟨.ref C,some (qa s),.fields fs,sl⟩->(∀c o,c≠x->s.heap.get? c=some o->h.get? c=some o)->Q (.done (.ret .none)) { s with heap:=h,toks:=tk }) :
  qe P w A (Builtin.«object.__setattr__» ⟨[.ref x,.str n tk,v],[]⟩) Q E s:=by
 have f:=t.refuse (F.passes (.ref x))
 obtain⟨h,g,d,k,D⟩:=s
 dsimp only at *
 have j:=wD_new i
 unfold Builtin.«object.__setattr__»
 repeat first
  |with_reducible refine wpAny_nsSet1 j fun L p r=>?_
  |rw[refuse_eq]
  |rw[refuseLoop_ref,f]
  |with_reducible refine Y27 i ?_
  |with_reducible refine wpAny_mroOf_exc l ?_
  |(with_reducible refine Ww (s:=⟨h,g,d,_,D⟩) l G t M F.mro B ?_;rw[K])
  |wp_step
 obtain⟨R,S,O,z,H,I⟩:=p.count (Within.cons n v Within.nil)
 refine Y27 z ?_
 rw[H,pastItsLine_dict (wZ I (by rw[yQ,kJb,sizeLine_eq];lia))]
 have J:=jW ⟨.type "dict",none,.dict #[],#[]⟩ i
 have lt:=zQ i
 refine kQ ?_
 wp_walk
 exact q L _ p ((r.2 x (xZ lt)).trans (jXf _ J rfl)) fun c o u e=>(r.2 c (xZ (zQ e))).trans ((Heap.get?_update_ne _ _ _ _ u).trans (jW _ e))
theorem Qgp{fs:Array Value}{Q:Unit->Shared->Prop}(F:StoreFacts T x3 sa ow)(f:s.heap.get? C=some (excClassObj a b C N x1 x2 true x5 x6 x7 x8 x9 y0 y1 y2 y3 y5 nw))(t:TailN s.heap ns x3 x2)(p:s.heap.Ns N m)(D:n∈ns)(I:m n=none)(z:("__setattr__":Str)∈ns)(i:m "__setattr__"=none)(u:typeLookup (.type T) n=pure none)(j:s.heap.get? x=some ⟨.ref C,none,.fields fs,sl⟩)
  (q:∀h tk,h.Ns1 (qa s) (fun y=>if y=n then some v else none)->h.get? x=some ⟨.ref C,some (qa s),.fields fs,sl⟩->(∀c o,c≠x->s.heap.get? c=some o->h.get? c=some o)->Q () { s with heap:=h,toks:=tk }) :
  qe P w A (setAttr (.ref x) n v) Q E s:=by
 have J:=F.slot.bind (.ref x)
 obtain⟨h,g,d,k,l⟩:=s
 dsimp only at *
 unfold setAttr callSpecial? specialOf
 repeat any_goals first
  |assumption
  |with_reducible refine Y27 j ?_
  |(with_reducible refine Ww (s:=⟨h,g,d,_,l⟩) f p t z F.mro F.slot.lookup ?_;rw[i])
  |wp_step
 refine Y43 F.slot.plain F.entry (Qpy F f t j rfl (Qgo (s:=⟨h,g,d,_,l⟩) F f t p D I u j fun G e r H B=>?_))
 repeat any_goals first
  |assumption
  |wp_step
 exact q G e r H B
end
end L2
namespace L2
open PySem PySem.Spec PySem.Calls PyProof.Rows PySem.W
structure ExcFld(K:Frag)(C:Addr)(n:Str):Prop where
 ga:findIn K (.ref C) "__getattribute__"=some (some (.builtin "BaseException.__getattribute__"))
 gn:findIn K (.ref C) "__getattr__"=some none
 fn:findIn K (.ref C) n=some none
 mb:mroIn K C (.type "BaseException")=some true
 hd:∃c dd cd sl,K.lookup C=some ⟨c,dd,.cls cd,sl⟩/\cd.hasDict=true
section
variable{w:World}{h:Heap}{g:Array GenState}{d:Drawn}{t:Nat}{os:OsState}{fs:Array Value}{K:Frag}{n:Str}{v:Value}
theorem Qty{Q:Fin->Shared->Prop}(X:K.In h)(Z:ExcFld K C n)(b:h.get? a=some ⟨.ref C,some dx,.fields fs,sl⟩)(j:h.Ns dx mA)(f:mA n=some v)(q:handedOut v=pure v)(s:Q (.done (.ret v)) ⟨h,g,d,t,os⟩) :
  qe prog w A (Builtin.«object.__getattribute__» ⟨[.ref a,.str n tk],[]⟩) Q E ⟨h,g,d,t,os⟩:=by
 have m:=Jp (M:=model prog w) b rfl
 have l:=looks_findIn (M:=model prog w) X Z.fn
 obtain⟨c,r,p,e,k,o⟩:=Z.hd
 have i:=X _ _ k
 unfold Builtin.«object.__getattribute__»
 repeat (any_goals (first | assumption | with_reducible refine Y27 b ?_ | with_reducible refine Looks.at (by assumption) ?_ | (with_reducible refine wpAny_nsGet j ?_;rw[f]) | with_reducible refine Y27 i ?_ | wp_step))
theorem Qyl(X:K.In h)(Z:ExcFld K C n)(b:h.get? a=some ⟨.ref C,some dx,.fields fs,sl⟩)(l:h.Ns dx mA)(j:mA n=some v)(k:handedOut v=pure v)(o:R (.ok (.ret v)) ⟨h,g,d,t,os⟩) :
  codeAny (model prog w) A (.call (.builtin "BaseException.__getattribute__") ⟨[.ref a,.str n tk],[]⟩) R ⟨h,g,d,t,os⟩:=by
 refine Y43 F.excAttr_ValueError.ga.plain F.entry_bexc_ga ?_
 have e:builtinKind "BaseException.__getattribute__"=some .slot:=Dk
 have m:splitId "BaseException.__getattribute__"=some ("BaseException","__getattribute__"):=Dk
 have p:=F.args_bexc_ga (.ref a) (.str n tk)
 have f:=Jp (M:=model prog w) b rfl
 have c:=looks_mroIn (M:=model prog w) X Z.mb
 have i:Looks (model prog w) h (isInstance (.ref a) (.type "BaseException")) true:=f.andThen c
 simp only[checkBuiltinCall,e,m]
 refine jQ (i.at ?_)
 repeat (first | exact Qty X Z b l j k o | wp_step)
theorem Qpz{Q:VP}(X:K.In h)(Z:ExcFld K C n)(b:h.get? a=some ⟨.ref C,some dx,.fields fs,sl⟩)(i:h.Ns dx mA)(c:mA n=some v)(e:handedOut v=pure v)(q:Q v ⟨h,g,d,t+1,os⟩) :
  qe prog w A (getAttr (.ref a) n expr) Q E ⟨h,g,d,t,os⟩:=by
 have m:=Jp (M:=model prog w) b rfl
 have k:=looks_findIn (M:=model prog w) X Z.ga
 have o:=looks_findIn (M:=model prog w) X Z.gn
 have j:=F.excAttr_ValueError.ga.bind (.ref a)
 have l:(expr&&onTheHeap (Value.builtin "BaseException.__getattribute__"))=false:=by cases expr<;>rfl
 have f:(Value.builtin "BaseException.__getattribute__" == Value.builtin "object.__getattribute__")=false:=Dk
 have p:(onTheHeap (Value.ref C)&&Value.builtin "BaseException.__getattribute__" == Value.builtin "object.__getattribute__")=false:=by rw[f];rfl
 unfold getAttr
 repeat (any_goals (first | assumption | with_reducible refine Looks.at (by assumption) ?_ | wp_step))
 refine Qyl X Z b i c e ?_
 repeat (any_goals (first | assumption | wp_step))
end
def exG(C dx:Addr):Obj->Prop:=fun o=>o.cls=.ref C/\o.dict=some dx
theorem Qqa:Ko (exG C dx):=fun o v g=>by
 obtain⟨c,d,e,f⟩:=o
 obtain⟨a,b⟩:=g
 cases e<;>exists a,b
def CXg(P:Program)(w:World)(C:Addr):CXT:=fun outer H s E ev s'=>∃(e dx:Addr) (H':Hp) (B:Heap),ev=.ref e/\E (.ref C) (some dx) H'/\s'.os=s.os/\AllBare s'.gens/\Un (frs outer) [] H H' s.heap s'.heap/\HOk P w H' s'.heap /\
 (∀b,b∉frs outer->((∃o,s.heap.get? b=some o)\/H' b≠none)->∃o,B.get? b=some o)/\FlyG B outer e (exG C dx) s'.heap
section
variable{w:World}{cd:Value}{s₀:Shared}{H₀:Hp}{E:XK}
abbrev cxG(P:Program)(w:World)(C:Addr)(K:Fg)(mg:Z9)(base:Heap)(N:List Str)(qual:Str)(scope:Scope)(f:Addr)(cd:Value)(A:Around)(outer:List Env)(s:Shared)(H:Hp)(E:XK):Cx:=cxOf (CXg P w C) P w K mg base N qual scope f cd A outer s H E
theorem Qio(I:Inv (cxG P w C K mg base N qual scope f cd A outer s₀ H₀ E) pins σ H s)(e:s₀.heap.get? b=some o)(d:b∉frs outer):b∉frs (envOfC qual scope (qa s₀) f cd::outer):=fun z=>by
 have g:b∈(envOfC qual scope (qa s₀) f cd::outer).filterMap (·.frame):=z
 obtain⟨a,he,c⟩:=xX.mp g
 rcases kK.mp he with rfl | he
 .have:(qa s₀)=b:=Y5 c
  exact Y21 (zQ e) (by rw[<-this];exact jZd _)
 .exact d (xX.mpr ⟨a,he,c⟩)
theorem Qym:Wt (CXg P w C) (cxG P w C K mg base N qual scope f cd A outer s₀ H₀ E) E:=by
 intro J W H s X L I h
 obtain⟨e,O,r,B,rfl,q,Q,m,un,D,F,fl⟩:=h
 show wpAny _ _ (leaving (envOfC qual scope (qa s₀) f cd) (.ref e)) _ _ _
 refine Qmd (M:=model P w) Qqa I.ok.frames rfl fl fun U l S=>?_
 have c:Un (frs (envOfC qual scope (qa s₀) f cd::outer)) [] H r s.heap L.heap:=un
 have j:∀b∈frs outer,b∈frs (envOfC qual scope (qa s₀) f cd::outer):=fun b g=>xX.mpr (let ⟨env,he,hf⟩:=xX.mp g;⟨env,kJ _ he,hf⟩)
 have k:∀b,b∉frs outer->((∃o,s₀.heap.get? b=some o)\/r b≠none)->∃o,B.get? b=some o:=fun b g z=>by
  rcases z with⟨o,a⟩ | z
  .obtain⟨p,i⟩:=I.base.there b o a (by intro z;cases z)
   exact F b (Qio I a g) (.inl ⟨p,i⟩)
  .refine F b (fun y=>?_) (.inr z)
   obtain⟨x,i,_⟩:=Yk (show s.heap.FunFrames base (envOfC qual scope (qa s₀) f cd::outer)from I.stack) b y
   exact z (c.free b x i (I.stkFree b y) (by intro z;cases z))
 have big:Un (frs outer) [] H₀ r s₀.heap L.heap:=by
  exists fun b o a n g d=>?_,fun b o a n g d=>?_,fun b o a n d=>?_,fun b o a d=>?_,fun b G a=>c.tups b G (I.base.tups b G a),fun b o u a=>c.frzs b o u (I.base.frzs b o u a),fun b ps a=>?_
  .exact c.keep b o (I.base.keep b o a n g d) (I.base.free b o a n d) (Qio I a g) d
  .obtain⟨V,i⟩:=I.base.slot b o a n g d
   obtain⟨v,t⟩:=c.slot b _ i (I.base.free b o a n d) (j b g) d
   exists v,t
  .obtain⟨p,i⟩:=I.base.there b o a d
   exact c.free b p i (I.base.free b o a n d) d
  .obtain⟨p,i⟩:=I.base.there b o a d
   exact c.there b p i d
  .obtain⟨R,i⟩:=I.base.tbls b ps a
   obtain⟨T,t⟩:=c.tbls b _ i
   exists R++T,by rw[t,Array.append_assoc]
 exists e,O,r,B,rfl,q,Q.trans I.os,m,Qsg big k fl.1 l.1 S fun b g=>Yk fl.2.2.1 b (j b g),Qjo D k fl.1 l.1 fun b g=>?_,k,l
 obtain⟨x,i,_⟩:=Yk (show s.heap.FunFrames base (envOfC qual scope (qa s₀) f cd::outer)from I.stack) b (j b g)
 exact c.free b x i (I.stkFree b (j b g)) (by intro z;cases z)
end
def excN(e C:Addr):HO:=.ext fun h=>∃t,h.get? e=some (exE C t)
def excM(e C dx:Addr):HO:=.ext fun h=>∃t,h.get? e=some { exE C t with dict:=some dx }
def excD(e C dx:Addr):HO:=.ext fun h=>∃fs sl,h.get? e=some ⟨.ref C,some dx,.fields fs,sl⟩
theorem Qyn{w:World}{h:Heap}{e t:Addr}(he:h.get? e=some { exE C t with dict:=some dx }):ObjOk P w H h e (excM e C dx):=⟨⟨t,he⟩,⟨_,he⟩,fun _ _ ⟨t,z⟩ k=>⟨t,k _ z⟩⟩
theorem Qyo{w:World}{h:Heap}{e:Addr}{fs:Array Value}(he:h.get? e=some ⟨.ref C,some dx,.fields fs,sl⟩):ObjOk P w H h e (excD e C dx):=⟨⟨fs,sl,he⟩,⟨_,he⟩,fun _ _ ⟨fs,sl,z⟩ k=>⟨fs,sl,k _ z⟩⟩
theorem Qyp{w:World}{h:Heap}{e t:Addr}(he:h.get? e=some (exE C t)):ObjOk P w H h e (excN e C):=⟨⟨t,he⟩,⟨_,he⟩,fun _ _ ⟨t,z⟩ k=>⟨t,k _ z⟩⟩
section
variable{e:Addr}{n:Str}
theorem Inv.excAt(I:Inv X pins σ H s)(a:H e=some (excN e C)):∃t,s.heap.get? e=some (exE C t):=(I.hok e _ a).1
theorem Inv.fieldX{tk:Nat}{t:Addr}(I:Inv X pins σ H s)(i:H e=some (excN e C))(m:RelV y u)(p:h'.Ns1 (qa s) (fun z=>if z=n then some u else none))(b:h'.get? e=some { exE C t with dict:=some (qa s) })(d:∀c o,c≠e->s.heap.get? c=some o->h'.get? c=some o) :
  H (qa s)=none/\Inv X pins σ (upd (upd H e (excM e C (qa s))) (qa s) (.xd [(n,y)])) { s with heap:=h',toks:=tk }:=by
 have j:Mut (H e):=by rw[i];exact True.intro
 have f:=I.hok.fresh (jJ (qa s))
 obtain⟨q,l⟩:=I.excAt i
 have k:(qa s)≠e:=kYc (zQ l)
 have a:upd H e (excM e C (qa s)) (qa s)=none:=by rw[Qj k];exact f
 exists f,I.un (Un.track (Un.write j (.inl rfl) d ⟨_,b⟩) (yYc (jJ _)) a) (HOk.track (I.hok.write j (.inl rfl) d ⟨_,b⟩ (Qyn b)) a ⟨_,p,fun g=>?_⟩)
 show RelO ([(n,y)].lookup g) (if g=n then some u else none)
 by_cases z:g=n
 .subst z
  rw[Y22 rfl,jQd,beq_self_eq_true]
  exact m
 .rw[Y20 z,jQd,show(g == n)=false from beq_false_of_ne z]
  exact True.intro
end
open PySem.W in
theorem Qyq{K:Frag}{h:Heap}{N:Addr}{m:Z9}{n:Str}{v:Value}(X:K.In h)(g:h.Ns N m)(e:nsIn K N n=some (some v)):m n=some v:=by
 obtain⟨o,i,f,c,b,_,d⟩:=g
 unfold nsIn at e
 split at e
 .rename_i q
  have z:=X _ _ q
  rw[c]at z
  cases z
  cases b
  rw[<-d]
  unfold nsFind findBy
  rw[<-Array.find?_toList]
  split at e
  .rename_i a
   rw[a]
   exact Y5 e
  .split at e<;>cases e
 .cases e
structure ErrI(K:Fg)(mg:Z9)(x:Str)(C D f:Addr)(n:Str):Prop where
 bound:mg x=some (.ref C)
 cls:∃a b N x1 x5 x6 x7 x8 x9 y0 y1 y2 y3 y5,K.lookup C=some (excClassObj a b C N x1 (.ref D::vErr) true x5 x6 x7 x8 x9 y0 y1 y2 y3 y5 "ValueError.__new__")/\PySem.W.nsOkIn K N=true/\PySem.W.nsIn K N "__init__"=some (some (.ref f))/\PySem.W.nsIn K N n=some none/\PySem.W.nsIn K N "__setattr__"=some none
 mid:∃c dd cd sl,K.lookup D=some ⟨c,dd,.cls cd,sl⟩/\PySem.W.nsOkIn K cd.ns=true/\PySem.W.nsIn K cd.ns "__init__"=some none/\PySem.W.nsIn K cd.ns n=some none/\PySem.W.nsIn K cd.ns "__setattr__"=some none
 none':typeLookup (.type "ValueError") n=pure none
theorem ErrI.tail{D:Addr}{n:Str}{h:Heap}(F:ErrI K mg x C D f n)(X:K.In h):TailN h ["__init__",n,"__setattr__"] vErr (.ref D::vErr):=by
 obtain⟨c,j,i,g,d,ok,a,e,b⟩:=F.mid
 refine .own (X _ _ d) (.of_isNs (PySem.W.isNs_of_in X ok)) (fun m hm=>?_) .base
 rcases kK.mp hm with rfl | hm
 .exact PySem.W.nsMap_none_of_in X ok a
 rcases kK.mp hm with rfl | hm
 .exact PySem.W.nsMap_none_of_in X ok e
 .rw[jV.mp hm];exact PySem.W.nsMap_none_of_in X ok b
section
variable{e D:Addr}{n:Str}
theorem Qip{Q:Unit->Shared->Prop}(F:ErrI X.K X.mg x C D f n)(I:Inv X pins σ H s)(d:H e=some (excN e C))(j:RelV y u)(q:∀s' dx,H dx=none->Inv X pins σ (upd (upd H e (excM e C dx)) dx (.xd [(n,y)])) s'->Q () s'):qd X A (setAttr (.ref e) n u) Q E s:=by
 obtain⟨a,b,N,O,M,V,R,P,z,U,T,L,S,B,r,ok,G,m,o⟩:=F.cls
 obtain⟨t,k⟩:=I.excAt d
 have c:=I.kIn
 refine Qgp PySem.F.store_ValueError (c _ _ r) (F.tail c) (.of_isNs (PySem.W.isNs_of_in c ok)) (kJ _ jY) (PySem.W.nsMap_none_of_in c ok m) (kJ _ (kJ _ jY)) (PySem.W.nsMap_none_of_in c ok o) F.none' k fun v tk l i g=>?_
 obtain⟨p,J⟩:=I.fieldX (tk:=tk) d j l i g
 exact q _ _ p J
theorem Qyr{o value:Expr}{ta tv:TE}(F:ErrI X.K X.mg x C D f n)(i:PE X o ta)(j:PE X value tv)(k:swapsWith value (some (.Attribute o n pos')) pos.line X.env=pure false) :
  PS X (.Assign [.Attribute o n pos'] value pos) (fun D' σ H=>tv σ H fun y H1=>ta σ H1 fun z H2=>∃e,z=.ref e/\H2 e=some (excN e C)/\∀dx,H2 dx=none->D'.nx σ (upd (upd H2 e (excM e C dx)) dx (.xd [(n,y)]))):=by
 intro a s σ H D' I h
 refine plainObj_wpAny_Assign_Attribute (thn (j a s σ H _ I h) fun u s1 ⟨y,H1,I1,ry,q⟩=>thn (i a s1 σ H1 _ I1 q) fun r w b=>?_) k
 obtain⟨z,H2,t,l,e,c,m,d⟩:=b
 subst c
 obtain rfl:r=Value.ref e:=l
 exact Qip F t m ry fun v dx p g=>⟨σ,_,g,d dx p⟩
inductive spXI(C:Addr)(n:Str)(vs:List V)(H:Hp)(Q:VK)(E:XK):Prop|mk(e:Addr)(y:V)(_:vs=[.ref e,y])(_:H e=some (excN e C))(_:∀dx,H dx=none->Q .non (upd (upd H e (excM e C dx)) dx (.xd [(n,y)]))):spXI C n vs H Q E
theorem Qqb{k:Nat}{p:Str}{Q:VP}(F:ErrI X.K X.mg x C D f n)(G:FnOk X.prog X.w X.K X.mg X.base CX0 k f fd ["self",p] (spXI C n))(M:Room (k+1) X.A)(E:Binds X.K fd ["self",p] [])(L:X.K.lookup f=some fo)(q:fo.cls=.type "function")(I:Inv X pins σ H s)(r:RelV y u)
  (h:∀dx s',H dx=none->dx≠(qa s)+1->Inv X pins σ (upd (upd H ((qa s)+1) (excM ((qa s)+1) C dx)) dx (.xd [(n,y)])) s'->Q (.ref ((qa s)+1)) s'):qd X X.A (call (.ref C) [u]) Q X.xe s:=by
 obtain⟨a,b,N,x1,x5,x6,x7,x8,Z,y0,y1,y2,y3,y5,R,ok,B,z2,z3⟩:=F.cls
 have c:=I.kIn
 have i:=I.laid (a:=(qa s)+1) (o:=excN ((qa s)+1) C) (h':=exH s.heap C [u]) (t':=s.toks) (fun _ _ z=>Qby z) (yYe _) (Qyp Qpv)
 have l:s.heap.Ns N _:=.of_isNs (PySem.W.isNs_of_in c ok)
 have J:Vals [V.ref ((qa s)+1),y] [Value.ref ((qa s)+1),u]:=.cons rfl (.cons r .nil)
 refine Qpx PySem.F.excBase_ValueError ((F.tail c).own_tail jY) (c _ _ R) l (Qyq c l B) (c _ _ L) q (Z1 1) ?_
 refine wpAny_call (Y49 (G.run _ X.stack _ _ ⟨[Value.ref ((qa s)+1),u],[]⟩ _ _ (fun v T=>v=.non/\∃dx,H dx=none/\dx≠(qa s)+1/\T=upd (upd H ((qa s)+1) (excM ((qa s)+1) C dx)) dx (.xd [(n,y)])) E0 (M.make C [u] []) (i.env0.make C [u] []) (E _ [Value.ref ((qa s)+1),u] i.kIn rfl) J ⟨_,_,rfl,Qc,fun dx g=>⟨rfl,dx,?_⟩⟩) fun r s' d=>?_)
 .have j:dx≠(qa s)+1:=fun z=>by rw[z,Qc]at g;cases g
  rw[Qj j]at g
  exists g,j,by rw[Qhg]
 cases r with
 |error e=>exact d.elim
 |ok fl=>
  cases fl with
  |ret v=>
   obtain⟨Y,H',P,m,U,dx,S,O,rfl⟩:=i.after d
   subst U
   exists m,h dx s' S O P
  |next=>exact False.elim d
  |brk=>exact False.elim d
  |cont=>exact False.elim d
end
theorem Qme{env:Env}{go:Sem Value}{Q:Flow->Shared->Prop}{a b:Str}{N:Addr}{x1 x2:List Value}{x4:Bool}{x5:List Str}{x6:List Value}{x7:Bool}{x8:Option Bool}{x9:Option Addr}{y0 y1 y2 y3 y5:Option Value}{nw:String}(i:x2.contains (.type "BaseException")=true)(l:A.handled=none)
  (h:wpAny M A go (fun v s1=>∃e t dx,v=.ref e/\s1.heap.get? C=some (excClassObj a b C N x1 x2 x4 x5 x6 x7 x8 x9 y0 y1 y2 y3 y5 nw)/\s1.heap.get? e=some { exE C t with dict:=dx }/\E (.ref e) s1) E s):wpAny M A (raiseStmt env (some go) none) Q E s:=by
 have c:(Value.ref C::x2).contains (.type "BaseException")=true:=by rw[kYa,i,Bool.or_true]
 unfold raiseStmt
 refine jQ (Y29 h (fun v s1 z=>?_) fun _ _ z=>z)
 obtain⟨e,t,dx,rfl,f,j,z⟩:=z
 obtain⟨n,g,d,k,m⟩:=s1
 dsimp only at *
 repeat first
  |with_reducible refine Y27 j ?_
  |with_reducible refine Y27 f ?_
  |(with_reducible refine wpAny_isSubtype_exc f ?_;rw[c])
  |wp_step
 exact wpAny_raiseNew_none l z
def rm(H:Hp)(e:Addr):Hp:=fun b=>if b=e then none else H b
theorem Qbz{e:Addr}:rm H e e=none:=Y22 rfl
theorem Qco{e:Addr}(h:b≠e):rm H e b=H b:=Y20 h
section
variable{w:World}{cd:Value}{s₀:Shared}{H₀:Hp}{E:XK}{D f2:Addr}
 {n:Str}
theorem Un.rm{fs:List Addr}{h:Heap}{e:Addr}{φ:Heap->Prop}(u:Un fs [] H₀ H h h')(a:H e=some (.ext φ)):Un fs [] H₀ (L2.rm H e) h h' where
 keep:=u.keep
 slot:=u.slot
 free:=fun b o d z g=>by
  by_cases c:b=e
  .rw[c];exact Qbz
  .rw[Qco c];exact u.free b o d z g
 there:=u.there
 tups:=fun b f z=>by
  have t:=u.tups b f z
  rw[Qco fun c=>by rw[c,a]at t;cases t];exact t
 frzs:=fun b o v z=>by
  have t:=u.frzs b o v z
  rw[Qco fun c=>by rw[c,a]at t;cases t];exact t
 tbls:=fun b ps z=>by
  obtain⟨m,t⟩:=u.tbls b ps z
  exists m,by rw[Qco fun c=>by rw[c,a]at t;cases t];exact t
theorem HOk.rm{h:Heap}{e:Addr}{φ:Heap->Prop}(x:HOk P w H h)(a:H e=some (.ext φ)):HOk P w (L2.rm H e) h:=fun b o z=>by
 have d:b≠e:=fun c=>by rw[c,Qbz]at z;cases z
 rw[Qco d]at z
 exact(x b o z).stay (fun _ _ _ q=>q) (fun c q=>by rw[Qco fun y=>by rw[y,a]at q;cases q];exact q) fun c f q=>by rw[Qco fun y=>by rw[y,a]at q;cases q];exact q
theorem Qys{e:Addr}(I:Inv (cxG P w C K mg base N qual scope f cd A outer s₀ H₀ E) pins σ H s)(p:s₀.heap.get? e=none)(l:H e=some (excM e C dx))(q:E (.ref C) (some dx) (L2.rm H e)):(cxG P w C K mg base N qual scope f cd A outer s₀ H₀ E).xe (.ref e) s:=by
 obtain⟨t,h⟩:=(I.hok e _ l).1
 show wpAny _ _ (leaving (envOfC qual scope (qa s₀) f cd) (.ref e)) _ _ _
 have u:s.heap.FunFrames base (envOfC qual scope (qa s₀) f cd::outer):=I.stack
 have v:∀b∈frs (envOfC qual scope (qa s₀) f cd::outer),H b=none:=I.stkFree
 have j:(hideAll s.heap (e::frs (envOfC qual scope (qa s₀) f cd::outer))).StaysIn s.heap:=fun b o z=>of_hideAll _ z
 refine Qeq (base:=hideAll s.heap (e::frs (envOfC qual scope (qa s₀) f cd::outer))) (G:=exG C dx) Qqa I.ok.frames rfl (funFrames_hide u fun d h b a=>kJ _ (xX.mpr ⟨d,h,a⟩)) h j (hideAll_none _ jY) rfl rfl ⟨rfl,rfl⟩ fun D fl B=>?_
 have g:∀b∈frs outer,b∈frs (envOfC qual scope (qa s₀) f cd::outer):=fun b a=>xX.mpr (let ⟨d,h,hf⟩:=xX.mp a;⟨d,kJ _ h,hf⟩)
 have k:∀b,b∉frs outer->((∃o,s₀.heap.get? b=some o)\/L2.rm H e b≠none)->∃o,(hideAll s.heap (e::frs (envOfC qual scope (qa s₀) f cd::outer))).get? b=some o:=fun b a z=>by
  rcases z with⟨o,i⟩ | z
  .obtain⟨m,n⟩:=I.base.there b o i (by intro z;cases z)
   exists m,hideAll_get _ n fun y=>?_
   rcases kK.mp y with y | y
   .rw[y,p]at i;cases i
   .exact Qio I i a y
  .have r:b≠e:=fun c=>z (by rw[c];exact Qbz)
   rw[Qco r]at z
   cases x:H b with
   |none=>exact Y21 x z
   |some ob=>
    obtain⟨m,n⟩:=(I.hok b ob x).ex
    exists m,hideAll_get _ n fun y=>?_
    rcases kK.mp y with y | y
    .exact r y
    .exact z (v b y)
 exists e,dx,L2.rm H e,_,rfl,q,I.os,I.bare,Qsg (Un.rm I.base l) k j fl.1 B fun b a=>Yk u b (g b a),Qjo (HOk.rm I.hok l) k j fl.1 fun b a=>?_,k,fl
 by_cases c:b=e
 .rw[c];exact Qbz
 .rw[Qco c];exact v b (g b a)
theorem Kg{k:Nat}{p:Str}{np:Pos}{a:Expr}(F:ErrI K mg x C D f2 n)(G:FnOk P w K mg base CX0 k f2 fd ["self",p] (spXI C n))(O:Binds K fd ["self",p] [])(hf:K.lookup f2=some fo)(U:fo.cls=.type "function")(kp:keepIn K (.ref C)=true)
  (hr:Room (k+1) (A.deeper (envOfC qual scope (qa s₀) f cd))) (R:PA (cxG P w C K mg base N qual scope f cd A outer s₀ H₀ E) [a] ta) (B:qb (Gl (cxG P w C K mg base N qual scope f cd A outer s₀ H₀ E) x)) (Q:qc ((x == ("__debug__":Str))=false))
  (he:qb (starEach [a] (envOfC qual scope (qa s₀) f cd)=(false,eval a (envOfC qual scope (qa s₀) f cd))::starEach [] (envOfC qual scope (qa s₀) f cd))) :
  PS (cxG P w C K mg base N qual scope f cd A outer s₀ H₀ E) (.Raise (some (.Call (.Name x np) [a] [] cpos)) none pos) (fun _ σ H=>ta σ H fun vs H1=>∃y,vs=[y]/\∀dx,H1 dx=none->E (.ref C) (some dx) (upd H1 dx (.xd [(n,y)]))):=by
 intro d s σ H D' I h
 obtain⟨M,S,T,c3,L,c5,W,l,Y,c9,X,d2,u,d4,lk,ok,z1,z2,z3⟩:=F.cls
 rw[arm_exec_Raise]
 refine jQ (Y62 (Qme (C:=C) (a:=M) (b:=S) (N:=T) (x1:=c3) (x2:=.ref D::vErr) (x4:=true) (x5:=L) (x6:=c5) (x7:=W) (x8:=l) (x9:=Y) (y0:=c9) (y1:=X) (y2:=d2) (y3:=u) (y5:=d4) (nw:="ValueError.__new__") (by rw[kYa];exact Bool.or_eq_true_iff.mpr (.inr Dk)) (I.ok.hd rfl) (jQ (Y29 (Y41 (Kw I B F.bound ?_ Q)) (fun v s3 z=>jQ (Y62 (kQ z))) fun _ _ z=>z))))
 refine callWith_K (h₀:=base) I.ok.mod.kin kp (thn (R cpos d s σ H _ I h) fun us s1 ⟨vs,H1,I1,r,y,ey,q⟩=>⟨I1.kIn,?_⟩) he rfl
 subst ey
 cases r with
 |cons r0 rr=>
  cases rr
  have big:(qa s₀)<=(qa s1)+1:=by
   obtain⟨m,⟨o,_,_,Z,_⟩,_⟩:=I1.loc
   exact Nat.le_of_lt (kQe (zQ Z))
  refine Qqb F G hr O hf U I1 r0 fun dx s' q1 i J=>?_
  have g:upd (upd H1 ((qa s1)+1) (excM ((qa s1)+1) C dx)) dx (.xd [(n,y)]) ((qa s1)+1)=some (excM ((qa s1)+1) C dx):=by rw[Qj (Ne.symm i)];exact Qc
  obtain⟨t,V⟩:=(J.hok _ _ g).1
  exists _,t,some dx,rfl,J.kIn _ _ lk,V,Qys J (yYc big) g ?_
  have j:L2.rm (upd (upd H1 ((qa s1)+1) (excM ((qa s1)+1) C dx)) dx (.xd [(n,y)])) ((qa s1)+1)=upd H1 dx (.xd [(n,y)]):=by
   funext b
   by_cases c:b=(qa s1)+1
   .rw[c,Qbz,Qj (Ne.symm i)]
    exact(I1.hok.fresh (yYe _)).symm
   .rw[Qco c]
    by_cases e:b=dx
    .rw[e,Qc,Qc]
    .rw[Qj e,Qj e,Qj c]
  rw[j]
  exact q dx q1
end
section
variable{k:Nat}{D:Addr}{ps:List Str}{g n c:Str}{p np pc pn epos hpos apos:Pos}{a:Expr}{t:TA}
theorem Qqc(ar:X.xe=fun _ _=>False)(S:X.stack=X.env::X.outer)(ak:X.env.frame=some X.env.locals)(F:FnOk X.prog X.w X.K X.mg X.base (CXg X.prog X.w C) k f fd ps sp)(hr:Room k X.A)(hm:X.mg g=some (.ref f))(hk:PySem.W.keepIn X.K (.ref f)=true)(hb:Binds X.K fd ps [])
  (ap:X.mg x=some (.ref D)) (ai:IsA X.K C D) (hN:X.N.Nodup) (ha:PA X (a::es) t) (hi:X.N[i]?=some c) (Z:X.N[j]?=some n) (aD:i≠j) (ab:qh X c=some .local) (m:qh X n=some .local)
  (hg:qb (Gl X g)) (al:qb (Gl X x)) (ah:qc ((g == ("__debug__":Str))=false)) (av:qc ((x == ("__debug__":Str))=false)) (aA:qc ((n == ("__debug__":Str))=false)) (au:qc ((n == ("__classdict__":Str))=false))
  (he:qb (starEach (a::es) X.env=(false,eval a X.env)::starEach es X.env)) (az:qb ((backTo cpos (starEach es X.env)).any (·.1)=false)) (hs:qb (swapsWith (.Call (.Name g p) (a::es) [] cpos) none epos.line X.env=pure false)) :
  PS X (.Try [.Expr (.Call (.Name g p) (a::es) [] cpos) epos] [.ExceptHandler (some (.Name x np)) (some n) [.Assign [.Name c pc] (.Name n pn) apos] hpos] [] [] pos)
   (fun D σ H=>t σ H fun vs H1=>sp vs H1 (fun _ H2=>D.nx σ H2) (fun _ od H2=>∀e dx,od=some dx->H2 e=none->D.nx (((σ.set j (some (.ref e))).set i (some (.ref e))).set j none) (upd H2 e (excD e C dx)))):=by
 intro d s σ H Ds I h
 refine wpAny_Try_except (wpAny_execs_cons (wpAny_Expr_any ?_ I.quiet hs))
 refine Y41 (Kw I hg hm ?_ ah)
 refine PySem.W.callWith_K (h₀:=X.base) I.ok.mod.kin hk (Y29 (ha cpos d s σ H _ I h) (fun us U ⟨vs,H1,I1,r,q⟩=>⟨I1.kIn,?_⟩) fun ev U z=>by rw[ar]at z;exact z.elim) he az
 have hl:us.length=ps.length:=by rw[<-r.length];exact F.len _ _ _ _ q
 have bd:=hb U us I1.kIn (by rw[xV];exact hl)
 rw[xV]at bd
 refine wpAny_call (Y49 (F.run X.A X.stack U H1 ⟨us,[]⟩ us vs _ _ hr I1.env0 bd r q) fun rr s' hq=>?_)
 cases rr with
 |ok fl=>
  cases fl with
  |ret u=>
   obtain⟨v,M,I',r',q'⟩:=I1.after hq
   exact Y66 (Y66 ⟨σ,M,I',q'⟩)
  |next=>exact False.elim hq
  |brk=>exact False.elim hq
  |cont=>exact False.elim hq
 |error ev=>
  obtain⟨e,dx,M,B,rfl,q,os,L,un,aa,R,fl⟩:=hq
  have ax:=Yk I1.stack
  have Q:∀b∈frs X.stack,M b=none:=fun b hb=>by
   obtain⟨o1,e1,_⟩:=ax b hb
   exact un.free b o1 e1 (I1.stkFree b hb) (by intro z;cases z)
  have J:∀h2:Heap,B.StaysIn h2->s'.heap.UpToSlots h2->Inv X d σ M { s' with heap:=h2 }:=fun h2 b2 up=>
   I1.call' (ch:=[]) os (Qsg un R fl.1 b2 up (Yk fl.2.2.1)) (Qjo aa R fl.1 b2 Q) L (fun b z=>Y21 z (by simp))
  have l:FlyG B (X.env::X.outer) e (exG C dx) s'.heap:=S▸fl
  have ay:X.A.frames=some (X.env::X.outer):=S▸I.ok.frames
  refine Qdh Qqa ay l.2.2.1 ak l.2.2.2 l.1 l.2.1 fun h4 k1 k2 k3 af=>?_
  refine Qep k1 k2 k3 fun h5 j1 j2 j3 ae=>?_
  have G:FlyG B (X.env::X.outer) e (exG C dx) h5:=⟨j1,l.2.1,j2,j3⟩
  have I5:=J h5 G.1 (af.trans ae)
  refine wpAny_handleBy_cons (codeAny_handlers_test (Kw (I5.suite e) al ap ?_ av)) (by intro z;cases z)
  obtain⟨ob,_,hob,⟨ad,_⟩,_⟩:=G.there
  refine ai _ _ _ { s' with heap:=h5 } e ob _ I5.kIn hob ad (codeAny_handlers_suite_as ?_)
  refine Qep G.1 G.2.2.1 G.2.2.2 fun h6 i1 i2 i3 aB=>?_
  have O:FlyG B (X.env::X.outer) e (exG C dx) h6:=⟨i1,l.2.1,i2,i3⟩
  have ag:B.get? e=none:=fl.2.1
  have ac:U.heap.get? e=none:=by
   cases q1:U.heap.get? e with
   |none=>rfl
   |some o=>
    exfalso
    by_cases hf:e∈frs X.stack
    .obtain⟨o1,e1,nf⟩:=Yk fl.2.2.1 e hf
     obtain⟨oe,ws,Y,_,aq⟩:=fl.there
     rw[e1]at Y
     cases Y
     exact nf _ aq
    .obtain⟨o2,e2⟩:=R e hf (.inl ⟨o,q1⟩)
     rw[ag]at e2
     cases e2
  have E:M e=none:=by
   cases q1:M e with
   |none=>rfl
   |some o=>
    exfalso
    obtain⟨o2,e2⟩:=R e (fun z=>by rw[Q e z]at q1;cases q1) (.inr (by rw[q1];simp))
    rw[ag]at e2
    cases e2
  have I6:Inv X d σ (upd M e (excD e C dx)) { s' with heap:=h6 }:=I1.call' (ch:=[]) os (Un.track (Qsg un R fl.1 O.1 ((af.trans ae).trans aB) (Yk fl.2.2.1)) ac E)
   (HOk.track (Qjo aa R fl.1 O.1 Q) E (by
    obtain⟨am,aF,g1,⟨g2,g3⟩,g4⟩:=O.there
    obtain⟨p1,p2,p3,p4⟩:=am
    dsimp only at g2 g3 g4
    subst g2 g3 g4
    exact Qyo g1)) L (fun b z=>Y21 z (by simp))
  have y:j<σ.length:=by rw[I.len];exact(jK.mp Z).1
  refine Vi I6 hN Z (.inl m) (v:=.ref e) rfl (fun s7 aj=>?_) (.inr m)
  have I7:=aj.suite e
  have P:=Qi (Qo (X:=X.suite e) (i:=i) (pos:=apos) (pos':=pc) hN hi (.inl ab) (Qun (pos:=pn) Z (.inl m) aA au) rfl (.inr ab))
  refine Y29 (P d s7 _ _ { nx:=fun aC H2=>aC=(σ.set j (some (.ref e))).set i (some (.ref e))/\H2=upd M e (excD e C dx),rt:=fun _ _=>False } I7 ⟨.ref e,by rw[jKf y],rfl,rfl⟩) (fun ao s8 h8=>?_) (fun _ _ z=>z.elim)
  cases ao with
  |ret u=>obtain⟨_,_,_,_,_,z⟩:=h8;exact z.elim
  |brk=>obtain⟨_,_,_,z⟩:=h8;exact z.elim
  |cont=>obtain⟨_,_,_,z⟩:=h8;exact z.elim
  |next=>
   obtain⟨aE,H8,I8,rfl,rfl⟩:=h8
   have an:=I8.unsuite I.ok
   show wpAny _ _ (bindName X.env n Value.none >>= fun _=>unbindBehindTheSuite X.env n hpos) _ _ _
   refine jQ ?_
   unfold bindName
   refine jQ (Y30 (wpAny_point ?_))
   refine jQ (Vi an hN Z (.inl m) (v:=.non) rfl (fun s9 I9=>wpAny_point ?_) (.inr m))
   unfold unbindBehindTheSuite
   have aw:j<(((σ.set j (some (.ref e))).set i (some (.ref e))).set j (some V.non)).length:=by simp;exact y
   refine wpAny_onRaise (Qoi I9 hN Z m (v:=.non) (by rw[jKf (by simp;exact y)]) fun aG T=>?_)
   rw[List.set_set]at T
   exists _,_,T,q e dx rfl E
end
theorem Qca:CallR X (.builtin "isinstance") (fun xs H Q=>∃(e C dx:Addr),H e=some (excD e C dx)/\ExcIn X.K C/\((∃D b,xs=[.ref e,.ref D]/\kitOne X.K (.ref C) (.ref D)=some b/\Q (.bl b) H)\/(∃T b,xs=[.ref e,.ty T]/\kitOne X.K (.ref C) (.type T)=some b/\Q (.bl b) H) \/
  ∃(p:Addr) (Ds:List Addr) (b:Bool),xs=[.ref e,.ref p]/\H p=some (.tup (Ds.map V.ref))/\kitAny X.K (.ref C) (Ds.map Value.ref)=some b/\Q (.bl b) H)):=by
 intro l s M H xs L Q I j h
 obtain⟨e,C,dx,E,Z,h⟩:=h
 have i:∃o,s.heap.get? e=some o/\o.cls=.ref C:=(let ⟨fs,B,z⟩:=(I.hok e _ E).1;⟨_,z,rfl⟩)
 rcases h with⟨D,b,rfl,a,q⟩ | ⟨T,b,rfl,a,q⟩ | ⟨p,Ds,b,rfl,t,a,q⟩
 .obtain⟨u,v,rfl,d,c⟩:=j.two
  cases d
  cases c
  exact kia_one (Qdz Z) I.kIn i a (fun z=>nomatch z) fun f=>⟨.bl b,H,I.tok f,rfl,q⟩
 .obtain⟨u,v,rfl,d,c⟩:=j.two
  cases d
  cases c
  exact kia_one (Qdz Z) I.kIn i a (fun z=>nomatch z) fun f=>⟨.bl b,H,I.tok f,rfl,q⟩
 .obtain⟨u,v,rfl,d,c⟩:=j.two
  cases d
  cases c
  obtain⟨_,m,r,y,A,k,g⟩:=(show ObjOk X.prog X.w H s.heap p (.tup (Ds.map V.ref))from I.hok p _ t)
  have x:=Qht r
  subst x
  obtain⟨n,g⟩:=g
  obtain⟨F,J,G,B⟩:=y
  simp only at k g
  subst k g
  exact kia_tup (Qdz Z) I.kIn i A a (fun z=>nomatch z) fun f=>⟨.bl b,H,I.tok f,rfl,q⟩
def tFldD(K:Fg)(ta:TE)(n:Str):TE:=fun σ H Q=>ta σ H fun z H1=>∃(e C dx:Addr) (fs:List (Str×V)) (v:V),z=.ref e/\H1 e=some (excD e C dx)/\H1 dx=some (.xd fs)/\ExcFld K C n/\fs.lookup n=some v/\Q v H1
theorem Qqd{o:Expr}{n:Str}{ta:TE}(D:PE X o ta)(m:attributeBase o n X.env (eval o X.env)=eval o X.env):PE X (.Attribute o n pos) (tFldD X.K ta n):=by
 intro a s E H Q I h
 refine Qhi m (thn (D a s E H _ I h) fun u F c=>?_)
 obtain⟨z,g,b,i,e,C,d,fs,v,p,k,A,Z,l,q⟩:=c
 subst p
 obtain rfl:u=Value.ref e:=i
 obtain⟨j,J,y⟩:=(b.hok e _ k).1
 obtain⟨B,x,r⟩:=(show ObjOk X.prog X.w g F.heap d (.xd fs)from b.hok d _ A)
 obtain⟨G,t,f⟩:=RelO.some_of (v:=v) (o:=B n) (by rw[<-l];exact r n)
 exact Qpz b.kIn Z y x.ns t (handedOut_of (Qaq f)) ⟨v,g,b.tok _,f,q⟩
section
variable{w:World}{cd:Value}{s₀:Shared}{H₀:Hp}{E:XK}
theorem Fun.okG{ps:List Str}{k:Nat}(F:Fun K x qual st f fd)(S:FnScope N ps (Qh st))(d:autoParam (∀vs H Q E,sp vs H Q E->vs.length=ps.length) J8._auto_1)
  (a:∀(cdv:Value) (A:Around) (outer:List Env) (s:Shared) (H:Hp) (vs:List V) (Q:VK) (E:XK),Room k (A.deeper (envOfC qual (Qh st) (qa s) f cdv))->sp vs H Q E ->
   ∃t,PSs (cxG P w C K mg base N qual (Qh st) f cdv A outer s H E) (Qw st) t/\t { nx:=fun _ H'=>Q .non H',rt:=Q } (start N vs) H):FnOk P w K mg base (CXg P w C) (k+1) f fd ps sp:=by
 obtain⟨l,m,kV,i,n,o,cdv,j,g,rfl,h,c⟩:=F.ex
 exact fn_of h c S d fun A outer s H vs Q E e b=>a cdv A outer s H vs Q E e b
structure CalG(P:Program)(w:World)(K:Fg)(mg:Z9)(base:Heap)(C:Addr)(k:Nat)(x:Str)(ps:List Str)(sp:Sp):Prop where
 ex:∃f fd,FnOk P w K mg base (CXg P w C) k f fd ps sp/\mg x=some (.ref f)/\PySem.W.keepIn K (.ref f)=true/\Binds K fd ps []
theorem CalG.calm{k:Nat}{ps:List Str}(c:CalG P w K mg base C k x ps sp):Cal P w K mg base k x ps (fun vs H Q _=>sp vs H Q fun _ _ _=>False):=by
 obtain⟨f,o,F,m,p,b⟩:=c.ex
 exists f,o,⟨fun vs H Q E h=>F.len vs H Q _ h,fun A a s H d q vs Q E i l j n h=>Y49 (F.run A a s H d q vs Q _ i l j n h) fun r t g=>?_⟩,m,p,b
 cases r with
 |ok fl=>
  cases fl with
  |ret u=>exact g
  |next=>exact False.elim g
  |brk=>exact False.elim g
  |cont=>exact False.elim g
 |error e=>obtain⟨_,_,_,_,_,z,_⟩:=g;exact z.elim
theorem Qqe{k:Nat}{ps:List Str}(F:Fn K mg x st)(S:FnScope N ps (Qh st))
  (c:autoParam (∀(kV doc pm:Value) (an:Option Addr) (cdv ct:Value) (us:List Value),us.length=ps.length->bindArgs (PySem.W.fnOf x x (Xa st) (Qw st) (Qh st) .none kV doc pm an cdv ct) ⟨us,[]⟩=pure (ps.zip us)) J7._auto_1) (b:autoParam (∀vs H Q E,sp vs H Q E->vs.length=ps.length) J8._auto_1)
  (a:∀(f:Addr) (cdv:Value) (A:Around) (outer:List Env) (s:Shared) (H:Hp) (vs:List V) (Q:VK) (E:XK),Room k (A.deeper (envOfC x (Qh st) (qa s) f cdv))->sp vs H Q E ->
   ∃t,PSs (cxG P w C K mg base N x (Qh st) f cdv A outer s H E) (Qw st) t/\t { nx:=fun _ H'=>Q .non H',rt:=Q } (start N vs) H):CalG P w K mg base C (k+1) x ps sp:=by
 obtain⟨f,d,F,m⟩:=F
 exists f,d,Fun.okG F S b fun cdv=>a f cdv,m,F.kp,F.binds c
theorem pe_fnG{k:Nat}{ps:List Str}{t:TA}{p:Pos}(c:CalG P w K mg base C k x ps sp)(g:Room k (A.deeper (envOfC qual scope (qa s₀) f cd)))(i:PA (cxG P w C K mg base N qual scope f cd A outer s₀ H₀ E) (e::es) t)
  (h:qb (Gl (cxG P w C K mg base N qual scope f cd A outer s₀ H₀ E) x)) (a:qc ((x == ("__debug__":Str))=false)) (he:qb (starEach (e::es) (cxG P w C K mg base N qual scope f cd A outer s₀ H₀ E).env=(false,eval e (cxG P w C K mg base N qual scope f cd A outer s₀ H₀ E).env)::starEach es (cxG P w C K mg base N qual scope f cd A outer s₀ H₀ E).env))
  (d:qb ((backTo pos (starEach es (cxG P w C K mg base N qual scope f cd A outer s₀ H₀ E).env)).any (·.1)=false)):PE (cxG P w C K mg base N qual scope f cd A outer s₀ H₀ E) (.Call (.Name x p) (e::es) [] pos) (Qwd sp [] E t):=by
 obtain⟨n,l,F,m,j,b⟩:=c.ex
 exact Qna F g h m j b .nil Qym i a he d
end
end L2
namespace Nb
open PySem L2
abbrev sIBR:Stmt:=top 27
abbrev sNPI:Stmt:=inClass (top 5) 0
def RE(C:Addr)(H:Hp)(z:Int)(E:XK):Prop:=∀dx H',Same H H'->H' dx=some (.xd [("row",.int z)])->E (.ref C) (some dx) H'
theorem RE.same{E:XK}(h:RE C H z E)(s:Same H H'):RE C H' z E:=fun a b c e=>h a b (s.trans c) e
theorem RE.raise{E:XK}(h:RE C H z E)(s:Same H H1):∀dx,H1 dx=none->E (.ref C) (some dx) (upd H1 dx (.xd [("row",.int z)])):=fun dx a=>h dx _ (s.trans (Qd a _)) Qc
structure NPk(P:Program)(w:World)(K:Fg)(mg:Z9)(base:Heap)(C D f:Addr)(fd:FuncData)(fo:Obj):Prop where
 ei:ErrI K mg "NoPicture" C D f "row"
 gi:FnOk P w K mg base CX0 1 f fd ["self","row"] (spXI C "row")
 bi:Binds K fd ["self","row"] []
 lk:K.lookup f=some fo
 fc:fo.cls=.type "function"
 kc:PySem.W.keepIn K (.ref C)=true
def IsBR(n:Int)(bn row:Str):Prop:=∃fg:List Nat,sg row=padL bn++fg/\fg.length=2*n.toNat/\∀c∈fg,48<=c/\c<=57
theorem Qkk{bn:Str}(f:bn.length<=12):IsBR n bn row↔(sg row).take 13=padL bn/\((sg row).drop 13).length=2*n.toNat/\∀c∈(sg row).drop 13,48<=c/\c<=57:=by
 have a:=Za f
 constructor
 .rintro⟨h,e,d,b⟩
  rw[e,kJc a,List.drop_left' a]
  exists rfl,d,b
 .rintro⟨g,d,b⟩
  exists (sg row).drop 13,by rw[<-g,kZc],d,b
def Pln(x:Str):Prop:=x.cps.all (· < 128)=true/\x.length<=150000
inductive Qvo(K:Fg)(C:Addr)(vs:List V)(H:Hp)(Q:VK)(E:XK):Prop|mk(p:Addr)(n:Int)(B:List BR)(bn row:Str)(_:vs=[.ref p,.str bn,.str row])(_:FcAt K C H p n B)(_:BookOk n B)(_:bn.length<=12)(_:Pln row)(_:∀(c:Bool) (H':Hp),Same H H'->(c=true↔IsBR n bn row)->Q (.bl c) H'):Qvo K C vs H Q E
theorem pln_iff:(x.cps.all (· < 128)=true)↔∀c∈sg x,c<128:=by
 rw[<-Array.all_toList,jYc]
 exists fun h c a=>kZ (h c a),fun h c a=>yX (h c a)
theorem nd_t{P:Prop}[Decidable P](h:(!decide P)=true):¬P:=by simpa using h
theorem nd_f{P:Prop}[Decidable P](h:¬(!decide P)=true):P:=by simpa using h
theorem Qmf{fg:List Nat}:((fg.map fun c=>decide (48<=c)&&decide (c<=57)).all id=true)↔∀c∈fg,48<=c/\c<=57:=by
 rw[List.all_map,jYc]
 refine forall_congr' fun c=>forall_congr' fun _=>?_
 show((decide (48<=c)&&decide (c<=57))=true)↔_
 rw[wV,decide_eq_true_iff,decide_eq_true_iff]
section
variable{w:World}
theorem scNPI:FnScope ["self","row"] ["self","row"] (Qh sNPI):=Sc
theorem Qyt{D:Addr}(F:Fun K "__init__" "NoPicture.__init__" sNPI f fd)(d:ErrI K mg "NoPicture" C D f "row"):FnOk P w K mg base CX0 1 f fd ["self","row"] (spXI C "row"):=by
 refine F.ok scNPI (a:=fun g A a s H b Q E i h=>?_)
 obtain⟨e,y,rfl,c,q⟩:=h
 exists _,(Qi (Qyr d (pv 0) (pv 1) rfl)),?_
 exists _,rfl,_,rfl,e,rfl,c,q
theorem scIBR:FnScope ["facts","bench","row","figures"] ["facts","bench","row"] (Qh sIBR):=Sc
theorem okIBR(o:mg "WIDTH"=some (.int 13 tW))(T:FcTxt K mg C)(F:Fn K mg "is_bench_row" sIBR)(M:Mg mg):Cal P w K mg base 2 "is_bench_row" ["facts","bench","row"] (Qvo K C):=by
 refine Xv F scIBR (a:=fun f R A l s H U Q E hr h=>?_)
 obtain⟨p,n,B,d,a,rfl,t,bk,b,⟨z,X⟩,q⟩:=h
 refine⟨_,(Qg (Z4 3 scIBR.nd (Xc Zc (pv 2) (Xe (Jf (v:=.int 13) rfl o ⟨_,rfl⟩)) Xn))
  (Qg (Xp (PW.pt (Wy (Ql Wb (Xc Zc (pv 2) Xn (Xe (Jf (v:=.int 13) rfl o ⟨_,rfl⟩))) (Yt Y4 PySem.F.slot_str_ljust PySem.F.type_str_ljust Qem (pv 1) (Qa (Jf (v:=.int 13) rfl o ⟨_,rfl⟩) Qf)) (Qp _)) (Kq (Ql Wb (Qr Yo rfl M.len Xr (Qa (pv 3) Qf)) (Qk Zy Qe (Yq (pv 0) rfl)) (Qp _))))) (Qi (Qx Qmn)) Qv)
  (Qi (Qx (Qr (Qnn rfl) rfl M.all bt_all (Qa (Yh ["sign"] [none] rfl (Qvi (pv 3)) (fun _ _ _=>(Z3 0 Z2)) (fun _ _ _=>Zg) (fun _ _ _=>(Qdq Qgk Qgk Qq (pv 0) Qq))) Qf)))))),?_⟩
 refine Qea ?_;intros
 obtain⟨O,lw,lb,Z,ls,la,ds,fs,aa,yh,Y,ya,J⟩:=id t
 exists"z"
 have n1:=bk.n1
 have S:=bk.n12
 have q:∀(c:Bool) (j:Hp),Same H j->(c=true↔(sg a).take 13=padL d/\((sg a).drop 13).length=2*n.toNat/\∀c∈(sg a).drop 13,48<=c/\c<=57)->Q (.bl c) j:=fun c j s' h=>q c j s' (h.trans (Qkk b).symm)
 have g:sg (qf a (some 13) none)=(sg a).drop 13:=Qeo a 13
 have y:sg (qf a none (some 13))=(sg a).take 13:=Qtx a 13
 have lf:(qf a (some 13) none).length<=a.length:=by rw[<-Xl,g,jXb,Xl];lia
 have Z:(qf a none (some 13)).length<=a.length:=by rw[<-Xl,y,zZ,Xl];lia
 have G:(qf a (some 13) none).length=((sg a).drop 13).length:=by rw[<-Xl,g]
 have lp:(Txt.ljust d 13).length=13:=by rw[<-Xl,Qbv b,Za b]
 exists _,rfl,_,rfl,a,rfl,Om,?_
 generalize qf a (some 13) none=fg at g lf G⊢
 exists _,rfl,_,rfl,a,rfl,Om,_,rfl,rfl,d,13,rfl,rfl,Dk,rfl,_,rfl,ite2 (fun c=>?_) (fun c=>?_)
 .refine iteT (q false H (Same.refl _) ⟨fun h=>(nomatch h),fun h=>?_⟩)
  have e:qf a none (some 13)=Txt.ljust d 13:=Kv (by rw[y,Qbv b];exact h.1)
  rw[e]at c
  exact Y21 rfl (nd_t c)
 have x:(sg a).take 13=padL d:=by
  rw[<-y,<-Qbv b,V.str.inj (nd_f c)]
 exists _,rfl,fg,rfl,Om,_,rfl,p,C,O,fs,_,rfl,J.hp,T.cl,T.nD,J.fD,_,_,rfl,rfl,mulC _ _ Dc Dc,rfl,_,rfl,ite2 (fun u=>?_) (fun u=>?_)
 .refine q false H (Same.refl _) ⟨fun h=>(nomatch h),fun h=>?_⟩
  refine Y21 ?_ (nd_t u)
  show V.int ((fg.length:Nat):Int)=V.int (2*n)
  rw[G,h.2.1]
  congr 1
  lia
 .have W:((sg a).drop 13).length=2*n.toNat:=by
   have e3:V.int ((fg.length:Nat):Int)=V.int (2*n):=nd_f u
   have e4:=V.int.inj e3
   lia
  have m:fg.cps.all (· < 128)=true:=pln_iff.mpr fun c I=>pln_iff.mp z c (kJa (by rw[<-g];exact I))
  exists _,rfl,fg,rfl,m,fun D N=>?_
  refine Wo V.bl (fun c=>decide (48<=c)&&decide (c<=57)) rfl Qkh (by rw[jXa];show fg.length<_;lia) N (fun c I k L P h=>?_) fun k L h1=>?_
  .refine⟨_,rfl,_,_,rfl,rfl,_,rfl,?_⟩
   rw[show(!decide ((⟨#[c]⟩:Str).cps.toList<("0":Str).cps.toList))=decide (48<=c)from le1 48 c]
   refine ite2 (fun r=>⟨_,_,rfl,rfl,?_⟩) (fun r=>?_)
   .dsimp only
    rw[show(!decide (("9":Str).cps.toList<(⟨#[c]⟩:Str).cps.toList))=decide (c<=57)from le1 c 57]
    have i:=h k (Same.refl _)
    rw[r,Bool.true_and]at i
    exact i
   .have i:=h k (Same.refl _)
    rw[Bool.eq_false_iff.mpr r,Bool.false_and]at i
    exact i
  .refine⟨D,_,rfl,Qb h1,q _ k L ?_⟩
   rw[Qmf]
   have e5:fg.cps.toList=(sg a).drop 13:=g
   rw[e5]
   exists fun h=>⟨x,W,h⟩,fun h=>h.2.2
end
end Nb
namespace L2
open PySem PySem.Spec PySem.Calls PyProof.Rows PySem.W
theorem Qqf:CallR X (.builtin "isinstance") (fun xs H Q=>∃(p:Addr) (Ds:List Addr) (b:Bool),xs=[.non,.ref p]/\H p=some (.tup (Ds.map V.ref))/\kitAny X.K (.type "NoneType") (Ds.map Value.ref)=some b/\Q (.bl b) H):=by
 intro d s D H xs B Q I A h
 obtain⟨p,Ds,b,rfl,i,e,q⟩:=h
 obtain⟨u,v,rfl,t,g⟩:=A.two
 cases t
 cases g
 obtain⟨_,f,r,k,l,c,a⟩:=(show ObjOk X.prog X.w H s.heap p (.tup (Ds.map V.ref))from I.hok p _ i)
 have j:=Qht r
 subst j
 obtain⟨n,a⟩:=a
 obtain⟨m,y,o,C⟩:=k
 simp only at c a
 subst c a
 exact kia_tup kitx_none I.kIn trivial l e (fun z=>nomatch z) fun x=>⟨.bl b,H,I.tok x,rfl,q⟩
end L2
namespace Nb
open PySem L2
abbrev sChS:Stmt:=top 28
theorem Qkl{l:List Nat}(h:∀c∈l,c≠32)(r:List Nat):(l++32::r).takeWhile (fun c=>decide (c≠32))=l:=by
 induction l with
 |nil=>rfl
 |cons c l ih=>
  rw[List.cons_append,List.takeWhile_cons,Y22 (yX (h c jY)),ih fun x a=>h x (kJ _ a)]
theorem Qvp(h:NmOk x):∃r,padL x=sg x++32::r:=by
 exists qg (12-x.length) 32,?_
 unfold padL
 rw[show 13-x.length=(12-x.length)+1 by have:=h.2.1;lia,yZd]
theorem Qyu{y:Str}(d:NmOk x)(a:NmOk y)(h:padL x=padL y):x=y:=by
 obtain⟨r,e⟩:=Qvp d
 obtain⟨j,i⟩:=Qvp a
 have b:∀{z:Str},NmOk z->∀c∈sg z,c≠32:=fun f c g=>by have:=f.2.2 c g;lia
 rw[e,i]at h
 have:=congrArg (List.takeWhile (fun c=>decide (c≠32))) h
 rw[Qkl (b d),Qkl (b a)]at this
 exact Kv this
theorem Qyv{w':Str}{b e:Int}(d:NmOk w)(a:NmOk w')(h:wrL n w v b e=wrL n w' v' b' e'):w=w':=by
 refine Qyu d a ?_
 have c:=congrArg (List.take 13) h
 unfold wrL at c
 rw[xY,xY,kJc (Za d.2.1),kJc (Za a.2.1)]at c
 exact c
theorem Qqg{b e:Int}(r:0<=b)(m:b<e)(o:e<=n)(p:0<=b')(j:b'<e')(i:e'<=n)(h:sgnL n b e=sgnL n b' e'):b=b':=by
 have f:∀d:Nat,d<n.toNat->((b<=(d:Int)/\(d:Int)<e)↔(b'<=(d:Int)/\(d:Int)<e')):=fun d k=>by
  have a:=congrArg (fun l:List Nat=>l[d]?) h
  unfold sgnL at a
  simp only[yZ,yZc k,kXf]at a
  by_cases g:b<=(d:Int)/\(d:Int)<e
  .by_cases c:b'<=(d:Int)/\(d:Int)<e'
   .exact⟨fun _=>c,fun _=>g⟩
   .rw[Y22 g,Y20 c]at a;exact Y21 (Y5 a) Dc
  .by_cases c:b'<=(d:Int)/\(d:Int)<e'
   .rw[Y20 g,Y22 c]at a;exact Y21 (Y5 a) Dc
   .exact⟨fun z=>Y21 z g,fun z=>Y21 z c⟩
 have a:=(f b.toNat Om).mp ⟨Om,Om⟩
 have q:=(f b'.toNat Om).mpr ⟨Om,Om⟩
 lia
theorem Qyw{b e:Int}(d:w.length<=12)(h:wrL n w v b e=wrL n w v' b' e'):sgnL n b e=sgnL n b' e'/\v=v':=by
 unfold wrL at h
 rw[xY,xY]at h
 have c:=yQe h
 have a:=List.append_inj c (by rw[Js,Js])
 exists a.1,Kv ?_
 injection a.2
def ChOk(n:Int)(B:List BR)(c:Ch):Prop:=∃l k,BR.way c.1 c.2.1 l k∈B/\0<=c.2.2/\c.2.2+l<=n
theorem Qqh(bk:BookOk n B){c:Ch}:c∈chs n B↔ChOk n B c:=by
 exists fun h=>Qxy h,fun a=>?_
 obtain⟨l,k,b,d,e⟩:=a
 refine jZc.mpr ⟨c.1,wks_mem.mpr (bk.wb.ref _ b c.1 jY),jZc.mpr ⟨(c.2.1,l,k),xX.mpr ⟨_,b,wayR_some.mpr rfl⟩,zK.mpr ⟨c.2.2.toNat,kKa.mpr (by show _<(n-l+1).toNat;lia),?_⟩⟩⟩
 show(c.1,c.2.1,((c.2.2.toNat:Nat):Int))=c
 rw[show((c.2.2.toNat:Nat):Int)=c.2.2 by lia]
theorem Qqi(bk:BookOk n B){c c':Ch}(h:ChOk n B c)(h':ChOk n B c')(e:wrC n B c=wrC n B c'):c=c':=by
 obtain⟨l,k,v,q,t⟩:=h
 obtain⟨w,F,f,b,d⟩:=h'
 obtain⟨x,E⟩:=Jt bk v
 obtain⟨o,C⟩:=Jt bk f
 have m:=congrArg sg e
 unfold wrC at m
 rw[Kf,Kf]at m
 obtain⟨i,g,j⟩:=c
 obtain⟨u,s,a⟩:=c'
 have z:i=u:=Qyv x o m
 subst z
 obtain⟨y,r⟩:=Qyw x.2.1 m
 have r:g=s:=r
 subst r
 have G:1<=l:=(bk.wb.ok _ v).1
 have A:1<=w:=(bk.wb.ok _ f).1
 have q:0<=j:=q
 have t:j+l<=n:=t
 have b:0<=a:=b
 have d:a+w<=n:=d
 have D:endC B (i,g,j)=j+l:=by show j+lenB B i g=_;rw[Zl bk.wb v]
 have p:endC B (i,g,a)=a+w:=by show a+lenB B i g=_;rw[Zl bk.wb f]
 rw[D,p]at y
 have:=Qqg q Om t b Om d y
 rw[this]
def Zw(n:Int)(B:List BR)(Ls:List Str)(ws:List Str)(A:List Ch):Prop:=A.map (·.1)=ws/\(∀c∈A,ChOk n B c)/\A.map (wrC n B)=Ls.take A.length
def Qgq(n:Int)(B:List BR)(Ls:List Str)(i:Nat)(w:Str):Prop:=∀c,ChOk n B c->c.1=w->Ls[i]?≠some (wrC n B c)
theorem Qgr{ps:List (Key×V)}:∀(m:Nat) (k:Key) (v:V),m<=ps.length->valV (Xi (ps.take m)) k=some v->(k,v)∈ps
 |0,k,v,_,h=>by rw[kKb]at h;cases h
 |m+1,k,v,hm,h=>by
  have e:ps[m]?=some ps[m]:=gE hm
  rw[Je e,Kl]at h
  split at h
  .rename_i b
   have a:=Y5 h
   rw[<-a,b]
   exact kY e
  .exact Qgr m k v Om h
theorem Qkm{ps:List (Key×V)}:∀(m:Nat) (k:Key) (v:V),m<=ps.length->(k,v)∈ps.take m->(valV (Xi (ps.take m)) k).isSome=true
 |0,k,v,_,h=>by rw[kKb]at h;cases h
 |m+1,k,v,hm,h=>by
  have e:ps[m]?=some ps[m]:=gE hm
  rw[Je e,Kl]
  split
  .rfl
  .rename_i a
   rw[Wa e]at h
   rcases kW.mp h with h | h
   .exact Qkm m k v Om h
   .exact Y21 (by rw[<-jV.mp h]) a
inductive Qkn(K:Fg)(C CX:Addr)(vs:List V)(H:Hp)(Q:VK)(E:XK):Prop|mk(p r:Addr)(n:Int)(B:List BR)(Ls:List Str)(_:vs=[.ref p,.ref r])(_:FcAt K C H p n B)(_:BookOk n B)(_:H r=some (.lst (Ls.map V.str)))(_:Ls.length<=1000000)(_:(∀A,Zw n B Ls (wks B) A->∀(g:Addr) (H':Hp),Same H H'->H g=none->ChsAt K H' g A->Q (.ref g) H'))(_:(∀i w A,(wks B)[i]?=some w->Zw n B Ls ((wks B).take i) A->Qgq n B Ls i w->RE CX H (i:Int) E)):Qkn K C CX vs H Q E
section
variable{w:World}
theorem scChS:FnScope ["facts","rows","pictures","taken","number","work","choice"] ["facts","rows"] (Qh sChS):=Sc
theorem okChS(NP:NPk P w K mg base CX DX fX fdX fo)(T:FcTxt K mg C){fA:Addr}{fdA:FuncData}(GA:FnOk P w K mg base CX0 2 fA fdA ["self"] (Qvh K C))(bA:Binds K fdA ["self"] [])(mA:Meth K C "all_choices" fA)(F:Fn K mg "choices_seen" sChS)(M:Mg mg)(q:Cal P w K mg base 3 "work_row" ["facts","choice"] (Qvj K C)):CalG P w K mg base CX 4 "choices_seen" ["facts","rows"] (Qkn K C CX):=by
 refine Qqe F scChS (a:=fun f az A ap s H vs Q E hr h=>?_)
 obtain⟨p,r,n,B,L,rfl,ad,bk,av,aF,ay,ai⟩:=h
 have hu:=Z6 1 hr.un
 refine⟨_,(Qg (Z4 2 scChS.nd (Yg (Zm rfl) rfl M.dict_ Qaz (Qa (Yh ["choice","facts"] [none,some 0] rfl (Xd (Qrn (pv 0) T.cl mA GA (hr.mono Dc) bA .nil Jx)) (fun _ _ _=>(Z3 0 (show(["choice","facts"]:List Str).Nodup by decide +kernel))) (fun _ _ _=>Zg) (fun _ _ _=>(Yf (Qa (Xk q (hr.mono Dc) (Qa (pv 1) (Qa (pv 0) Qf))) (Qa (pv 0) Qf))))) Qf)))
  (Qg (Z4 3 scChS.nd (Xg Qf))
  (Qg (Yb PassesOwn.leaving rfl (Qob true rfl M.enumerate_ (Qa (Yq (pv 0) rfl) Qf)) (Wc (K:=K) (i:=4) (j:=5) rfl rfl scChS.nd rfl rfl rfl rfl) (Qg (Z4 6 scChS.nd (Qdn (Ql Qam (pv 4) (Qr Qu rfl M.len Xr (Qa (pv 1) Qf)) (Qp _)) (Qjk hu (pv 2) (Qs Qn (pv 1) (pv 4)) ⟨rfl,rfl,rfl,rfl⟩) Jk))
  (Qg (Xp (PW.pt (Wy (Ql Qiz (pv 6) Jk (Qp _)) (Kq (Ql Wb (Qs Yd (pv 6) Qe) (pv 5) (Qp _))))) (Qi (Kg NP.ei NP.gi NP.bi NP.lk NP.fc NP.kc (hr.mono Dc) (Qa (pv 4) Qf))) Qv)
  (Qi (Yj (Yt Y1 Y2 Y3 Xq (pv 3) (Qa (pv 6) Qf)))))))
  (Qi (Qx (pv 3)))))),?_⟩
 refine Km ?_;intros
 obtain⟨dx,lw,lb,lh,ls,la,ds,fs,aE,yh,aA,ya,hF⟩:=id ad
 exists"z"
 have n1:=bk.n1
 have aC:=bk.n12
 exists _,rfl,p,dx,fs,rfl,hF.hp,hF.nC,?_
 dsimp only[tNil]
 exists p,n,B,rfl,ad,bk,fun a H1 s1 hn aD hA=>?_
 obtain⟨vs,ao,ar⟩:=hA.ex
 obtain⟨d,e1,e2,ah⟩:=Qkj ar
 subst e1
 have U:=hA.few
 have lz:d.length<=2000000:=by rw[e2,jX]at U;exact U
 have aa:∀z∈d,ChOk n B z.2:=fun z o=>(Qqh bk).mp (by rw[e2];exact yZa o)
 have ag:∀c,ChOk n B c->∃z∈d,z.2=c:=fun c X=>by
  have:=(Qqh bk).mpr X
  rw[e2]at this
  obtain⟨z,b,Z⟩:=zK.mp this
  exists z,b,Z
 exists a,rfl,⟨_,ao⟩,fun D hD=>?_
 refine Qij (fun H v (x:Key×V)=>∃t,v=.ref t/\t≠D/\H t=some (.tup [kV x.1,x.2])) (fun z:Addr×Ch=>((inr (wrC n B z.2):Key),V.ref z.1)) rfl (Ke (val:=fun z:Addr×Ch=>V.ref z.1) ao) Om hD (fun s _ h=>by obtain⟨t,h1,h2,h3⟩:=h;exists t,h1,h2,(by assumption:Same _ _) _ _ h3) (fun h=>by obtain⟨t,h1,h2,h3⟩:=h;exists t,h1,h2,by rw[Qj h2];exact h3) (fun z o H2 s2 ax P h=>?_) fun H2 O s2 h2 hp=>?_
 .obtain⟨l,k,hk,_⟩:=aa z o
  exists _,rfl,_,rfl,p,z.1,n,B,_,_,_,l,k,rfl,ad.same (s1.trans s2),bk,s2.tup (ah z o),hk,fun S W=>?_
  exists _,rfl,Z1 2,fun t ht=>h (.ref t) _ (W.trans (Qd ht _)) ⟨t,rfl,fun e=>?_,?_⟩
  .cases e6:H2 t with
   |none=>rw[e]at e6;exact ax e6
   |some u=>rw[W _ _ e6]at ht;cases ht
  .rw[Qc]
   show _=some (HO.tup [V.str (wrC n B z.2),V.ref z.1])
   unfold wrC endC
   rw[Zl bk.wb hk]
 have am:PairsK K H2 O (d.map fun z:Addr×Ch=>((inr (wrC n B z.2):Key),V.ref z.1)):=Paired.mapP hp fun v x ⟨t,h1,_,h3⟩=>⟨t,h1,Xb h3⟩
 exists D,O,_,rfl,Qb h2,am,by rw[jX];lia,fun dd aj=>?_
 have ln:(d.map fun z:Addr×Ch=>((inr (wrC n B z.2):Key),V.ref z.1)).length<=(d.map fun z:Addr×Ch=>((inr (wrC n B z.2):Key),V.ref z.1)).length:=jJ _
 have I:∀(x:Str) (v:V),valV (Xi (d.map fun z:Addr×Ch=>((inr (wrC n B z.2):Key),V.ref z.1))) (inr x)=some v->∃z∈d,x=wrC n B z.2/\v=.ref z.1:=fun x v h=>by
  rw[<-yW (l:=d.map fun z:Addr×Ch=>((inr (wrC n B z.2):Key),V.ref z.1))]at h
  obtain⟨z,b,Z⟩:=zK.mp (Qgr _ _ _ ln h)
  injection Z with a1 a2
  exists z,b,(Y37 a1).symm,a2.symm
 have J:∀z∈d,(valV (Xi (d.map fun z:Addr×Ch=>((inr (wrC n B z.2):Key),V.ref z.1))) (inr (wrC n B z.2))).isSome=true:=fun z o=>by
  rw[<-yW (l:=d.map fun z:Addr×Ch=>((inr (wrC n B z.2):Key),V.ref z.1))]
  refine Qkm _ _ (.ref z.1) ln ?_
  rw[yW]
  exact yZa o
 have s3:=s2.trans (Qd aj (.dK (Xi (d.map fun z:Addr×Ch=>((inr (wrC n B z.2):Key),V.ref z.1)))))
 have Y:upd H2 dd (.dK (Xi (d.map fun z:Addr×Ch=>((inr (wrC n B z.2):Key),V.ref z.1)))) dd=some (.dK (Xi (d.map fun z:Addr×Ch=>((inr (wrC n B z.2):Key),V.ref z.1)))):=Qc
 generalize upd H2 dd (.dK (Xi (d.map fun z:Addr×Ch=>((inr (wrC n B z.2):Key),V.ref z.1))))=H3 at s3 Y⊢
 generalize Xi (d.map fun z:Addr×Ch=>((inr (wrC n B z.2):Key),V.ref z.1))=kv at I J Y
 clear am hp h2 s2 aj ln hD
 have sz:∀z∈d,SqT K H3 z.1 [.str z.2.1,.str z.2.2.1,.int z.2.2.2]:=fun z o=>s3.tup (ah z o)
 have y:=s1.trans s3
 exists Z1 0,fun g hg=>?_
 have s4:=Qd hg (.lst [])
 have h4:upd H3 g (.lst []) g=some (.lst []):=Qc
 generalize upd H3 g (.lst [])=H4 at s4 h4⊢
 let an:Nat->St->Hp->Prop:=fun i σ S=>∃(u4 u5 u6:Option V) (A:List Ch) (O:List V),σ=[some (.ref p),some (.ref r),some (.ref dd),some (.ref g),u4,u5,u6]/\S g=some (.lst O)/\ChsAre K S O A/\Zw n B L ((wks B).take i) A/\Same H3 S
 exists _,rfl,p,C,dx,fs,_,rfl,(y.trans s4) _ _ hF.hp,T.cl,T.nW,hF.fW,lw,rfl,⟨_,Qb ((y.trans s4) _ _ hF.hW)⟩,Qjl (K:=K) (m:=true) (a:=lw) (xs:=(wks B).map V.str) an ⟨none,none,none,[],[],rfl,h4,.nil,⟨rfl,fun _ h=>(nomatch h),rfl⟩,s4⟩ (fun i σ S _ h=>?_) ?_ ?_
 .obtain⟨u4,u5,u6,A1,O,rfl,h5,h6,N,W⟩:=h
  exact Qb ((y.trans W) _ _ hF.hW)
 .rintro i x σ S T' ex ⟨u4,u5,u6,A1,O,rfl,h5,h6,N,W⟩ aw
  obtain⟨wk,ew,rfl⟩:=Qih ex
  have hi:=(jK.mp ew).1
  have lA:A1.length=i:=by
   have:=congrArg List.length N.1
   rw[jX,zZ]at this
   lia
  have wl:(wks B).length<=B.length:=xQ _ _
  have bl:=bk.wb.len
  have ly:=Paired.length h6
  exists T',_,rfl,Xb Qc,rfl,_,_,rfl,_,_,rfl,rfl,?_
  have s6:=Qd aw (.tup [.int ((i:Nat):Int),.str wk])
  generalize upd S T' (.tup [.int ((i:Nat):Int),.str wk])=H6 at s6⊢
  have R:=W.trans s6
  have af:=y.trans R
  have ae:=af _ _ av
  have al:=R _ _ Y
  have ac:Qgq n B L i wk->RE CX H6 (i:Int) E:=fun aq=>(ai i wk A1 ew N aq).same af
  exists _,rfl,_,rfl,r,_,rfl,.inl (Qb ae),_,_,rfl,rfl,_,rfl,ite2 (fun c1=>?_) (fun c1=>?_)
  .have G:i<L.length:=by
    have:=kZ c1
    rw[jX]at this
    lia
   have aL:atI (L.map V.str) ((i:Nat):Int)=some (.str L[i]):=Jy (by rw[yZ,gE G];rfl)
   exists _,rfl,dd,rfl,.inl ⟨kv,.inl al⟩,_,rfl,_,rfl,r,_,_,_,rfl,rfl,Qb ae,aL,_,DGet.k (k:=inr L[i]) al,?_
   cases ev:valV kv (inr L[i])with
   |none=>
    exists _,rfl,rfl,_,rfl,iteT (iteT ?_)
    exists _,rfl,_,rfl,(ac fun c X ab e=>?_).raise (Same.refl _)
    obtain⟨z,b,rfl⟩:=ag c X
    have h8:=J z b
    rw[gE G]at e
    rw[<-Y5 e,ev]at h8
    cases h8
   |some v=>
    obtain⟨z,b,e8,rfl⟩:=I _ _ ev
    have ak:=R.tup (sz z b)
    exists _,rfl,rfl,_,rfl,iteF ?_
    exists _,rfl,z.1,_,_,_,rfl,rfl,ak,rfl,_,rfl,rfl,_,rfl,ite2 (fun c2=>?_) (fun c2=>?_)
    .refine⟨_,rfl,_,rfl,(ac fun c X ab e=>?_).raise (Same.refl _)⟩
     rw[gE G]at e
     have e9:=Qqi bk X (aa z b) ((Y5 e).symm.trans e8)
     refine nd_t c2 ?_
     rw[<-ab,e9]
    .have au:z.2.1=wk:=V.str.inj (nd_f c2)
     exists _,rfl,.inl ⟨rfl,_,Qb (s6 _ _ h5)⟩,_,rfl,g,_,_,rfl,rfl,s6 _ _ h5,Om,?_
     exists _,_,_,A1++[z.2],_,rfl,Qc,?_,?_,Yp R hg
     .exact Paired.snoc ((h6.same s6).updL (s6 _ _ h5)) ⟨z.1,rfl,Zn (s6 _ _ h5) ak⟩
     .refine⟨?_,fun c X=>?_,?_⟩
      .rw[yK,N.1,Wa ew,<-au];rfl
      .rcases kW.mp X with h | h
       .exact N.2.1 c h
       .rw[jV.mp h];exact aa z b
      .rw[yK,N.2.2,jZ,lA]
       show _++[wrC n B z.2]=L.take (i+1)
       rw[Wa (gE G),e8]
  .have G:L.length<=i:=by
    rcases Nat.lt_or_ge i L.length with h | h
    .exact Y21 (yX (by rw[jX];lia)) c1
    .exact h
   exists _,rfl,rfl,_,rfl,iteT (iteT ?_)
   exists _,rfl,_,rfl,(ac fun c X ab e=>?_).raise (Same.refl _)
   rw[kZb G]at e
   cases e
 .rintro σ S ⟨u4,u5,u6,A1,O,rfl,h5,h6,N,W⟩
  rw[jX,yW]at N
  have lA:A1.length<=2000000:=by
   have:=congrArg List.length N.1
   rw[jX]at this
   have wl:(wks B).length<=B.length:=xQ _ _
   have bl:=bk.wb.len
   lia
  exists _,rfl,ay A1 N g S (y.trans W) (y.free hg) ⟨⟨O,Qb h5,h6⟩,lA⟩
end
end Nb
namespace L2
open PySem PySem.Spec PyProof.Rows
theorem Qiq:typeLookup (.type "enumerate") "__len__"=pure none:=by rw[typeLookup_type,Y60];kernel_rfl
theorem Qgs:typeLookup (.type "enumerate") "__length_hint__"=pure none:=by rw[typeLookup_type,Y60];kernel_rfl
theorem Qcp(a b:Value):checkTypeCall "enumerate" ⟨[a],[("start",b)]⟩=pure ():=by kernel_rfl
theorem Qer(a b:Value):checkBuiltinCall "enumerate.__new__" ⟨[.type "enumerate",a],[("start",b)]⟩=pure ():=by kernel_rfl
abbrev Jc(h:Heap)(e it:Addr)(c:Int)(f0:Value)(f1:Bool)(old:Value):Prop :=
 h.get? e=some { cls:=.type "enumerate",dict:=none,data:=.fields #[f0,.bool f1,.ref it,rawInt c,.none,old],slots:=#[] }
section
variable{w:World}
theorem Qir{T initId:String}{Bn Bi:Builtin}{args:List Value}{S:PySem.Spec}{Q:VP}(b:TypeCalled T newId initId)
  (x:checkTypeCall T ⟨args,kw⟩=pure ()) (o:checkBuiltinCall newId ⟨.type T::args,kw⟩=pure ())
  (d:entryFor table newId=some Bn) (f:entryFor table initId=some Bi) (g:Meets (Bn ⟨.type T::args,kw⟩) S)
  (h:S A.in1 (wants Q₁ E) s)
  (i:∀obj s₁,Q₁ obj s₁->s₁.TypeIs obj T/\argsOk initId ⟨obj::args,kw⟩/\∃Si,Meets (Bi ⟨obj::args,kw⟩) Si/\Si A.in1 (wants (fun r s₂=>r=.none/\Q obj s₂) E) s₁) :
  qe prog w A (call (.type T) args kw) Q E s:=by
 obtain⟨c,C,p⟩:=b.mro
 have m:=b.made
 have q:=b.sub
 refine wpAny_call (codeAny_of_tree ?_)
 show wpAny _ _ (callAny (.type T) _) _ _ _
 refine kQ ⟨Code.quiet_builtin _ Dk,Y28 F.entry_type_call ?_⟩
 rw[Around.under_plain (weight_type_call_type T args kw) (units_type_call_type T args kw)]
 have D:=b.notType
 have B:=b.canCreate
 repeat (any_goals (first | assumption | wp_step))
 refine Y49 (Y43 b.plain d (Y32 o (g prog w A.in1 _ s h))) fun r s₁ l=>?_
 cases r with
 |error e=>exact l
 |ok fl=>
  cases fl with
  |ret obj=>
   obtain⟨u,n,Si,v,k⟩:=i _ _ l
   have y:=b.init.lookup
   have t:=b.init.bind obj
   repeat (any_goals (first | assumption | wp_step))
   refine Y49 (Y43 b.init.plain f (b.init.check _ _ _ _ _ _ _ _ u n (v prog w A.in1 _ s₁ k))) fun j s₂ a=>?_
   cases j with
   |error e=>exact a
   |ok fl₂=>
    cases fl₂ with
    |ret r=>
     obtain⟨rfl,z⟩:=a
     repeat (any_goals (first | assumption | wp_step))
    |_=>exact a.elim
  |_=>exact l.elim
theorem Qcq{T:String}{self a:Value}(g:typeLookup (.type T) "__init__"=pure (some (.builtin "object.__init__")))
  (h:Bind.madeBy (.type T)=pure (some newId)) (d:(some newId != some "object.__new__")=true) :
  Meets (Builtin.«object.__init__» ⟨[self,a],kw⟩) (fun _ R s=>s.TypeIs self T/\R (.ok (.ret .none)) s):=by
 refine Meets.of_wp fun b w A R s c=>?_
 obtain⟨f,e⟩:=c
 repeat (any_goals (first | assumption | wp_step))
 exists _,rfl,e
end
theorem Qis{n:String}{l:Addr}{t:Tok}{p:Heap->Prop}(I:Itr0 n l p)(m:Builtin.SmallTypes.fitsIndex c=true) :
  Meets (Builtin.«enumerate.__new__» ⟨[.type "enumerate",.ref l],[("start",.int c t)]⟩) (fun _ R s=>p s.heap/\R (.ok (.ret (.ref (s.heap.push (Jl n l)).objs.size))) { s with heap:=(s.heap.push (Jl n l)).push { cls:=.type "enumerate",data:=.fields #[.none,.bool false,.ref (qa s),rawInt c,.none,.none] } }) :=
 .of_wp fun a w A R s h=>by
  obtain⟨i,g,d,k,f⟩:=s
  obtain⟨q,h⟩:=h
  have e:=sub_enumerate
  have b:=fun(A:Around) (E:VP) (Q:VP)=>I.go a w A E ⟨i,g,d,k,f⟩ Q q
  wp_walk
  refine wpAny_stack_any fun j=>kQ ?_
  split
  .rename_i c _ _ _ _ _
   cases(c == Value.type "enumerate")
   .wp_walk using b _ _ _
    exists _,rfl,h
   .wp_walk using b _ _ _
    exists _,rfl,h
  .wp_walk using b _ _ _
   exists _,rfl,h
section
variable{w:World}{e l:Addr}{st:Nat->Heap->Prop}{src:List Value->Heap->Prop}{xs:List Value}{old:Value}
theorem Qes{f0:Value}(k:A.handled=none)(g:Drw P w it l st src)(f:Jc s.heap e it c f0 f1 old)(m:st i s.heap)(p:src xs s.heap)(r:xs[i]?=none)
  (j:∀h',Heap.ExtBut it s.heap h'->Q none { s with heap:=h' }):qe P w A (pyNext (.ref e)) Q E s:=by
 have a:s.TypeIs (.ref e) "enumerate":=⟨_,f,rfl⟩
 unfold pyNext
 refine jQ (Y55 (wpAny_callSpecial?_slot (name:=Str.ofString "__next__") a Y36 (Y25 Y36 a Y47 ?_ (Y45 _))))
 show wpAny _ _ (field (.ref e) 2 >>= _) _ _ _
 refine jQ (Y23 f rfl (x:=.ref it) rfl ?_)
 refine jQ (g.done _ _ s i xs _ k m p r fun h' x t d=>?_)
 obtain⟨o,n,q⟩:=d
 refine jQ (wpAny_isInstance (T:="StopIteration") (b:=true) ⟨o,n,q⟩ isSubtype_stop (kQ (j _ t)))
theorem Qtz{T:Addr}{q:Obj}{Q:Bool->Shared->Prop}(a:Jc s.heap e it c (rawInt (T:Nat)) f1 old)(g:s.heap.get? T=some q)
  (f:∀h',Jc h' e it c (rawInt (T:Nat)) true old->Heap.SameBut e s.heap h'->Q false { s with heap:=h' }):qe P w A (Builtin.SmallTypes.ownedTupleIsFree (.ref e)) Q E s:=by
 unfold Builtin.SmallTypes.ownedTupleIsFree
 refine jQ (Y23 a rfl (x:=rawInt (T:Nat)) rfl ?_)
 show wpAny _ _ (loadIfAlive (((T:Nat):Int).toNat) >>= _) _ _ _
 rw[jYe]
 refine jQ (alive_ ?_)
 rw[g]
 show wpAny _ _ (field (.ref e) 1 >>= _) _ _ _
 refine jQ (Y23 a rfl (x:=.bool f1) rfl ?_)
 cases f1 with
 |true=>exact kQ (f s.heap a ⟨rfl,fun _ _=>rfl⟩)
 |false=>
  show wpAny _ _ (setField (.ref e) 1 (.bool true) >>= _) _ _ _
  exact jQ (Y24 a (by simp) fun h' d b=>kQ (f h' d b))
theorem Qcb{x:Value}{T:Addr}{qT:Obj}(M:Drw P w it l st src)(K:Jc s.heap e it c (rawInt (T:Nat)) f1 old)(hT:s.heap.get? T=some qT)(S:T≠e)(O:T≠it)(hI:st i s.heap)(hl:src xs s.heap)(Z:xs[i]?=some x)(k:e≠it)
  (hQ:∀h',Jc h' e it (c+1) (rawInt (T:Nat)) true old->st (i+1) h'->h'.get? (qa s)=some { cls:=.type "tuple",data:=.seq #[.int c s.toks,x] } ->
   (∀b o,b≠e->b≠it->s.heap.get? b=some o->h'.get? b=some o)->Q (some (.ref (qa s))) { s with heap:=h',toks:=s.toks+1 }):qe P w A (pyNext (.ref e)) Q E s:=by
 have J:s.TypeIs (.ref e) "enumerate":=⟨_,K,rfl⟩
 unfold pyNext
 refine jQ (Y55 (wpAny_callSpecial?_slot (name:=Str.ofString "__next__") J Y36 (Y25 Y36 J Y47 ?_ (Y45 _))))
 obtain⟨y,g,d,a,j⟩:=s
 show wpAny _ _ (field (.ref e) 2 >>= _) _ _ _
 refine jQ (Y23 K rfl (x:=.ref it) rfl ?_)
 refine jQ (M.item _ _ ⟨y,g,d,a,j⟩ i xs x _ hI hl Z fun r V F=>?_)
 replace F:Heap.SameBut it y r:=F
 have t:Jc r e it c (rawInt (T:Nat)) f1 old:=(F.2 e k).trans K
 show wpAny _ _ (field (.ref e) 3 >>= _) _ _ ⟨r,g,d,a,j⟩
 refine jQ (Y23 t rfl (x:=rawInt c) rfl ?_)
 show wpAny _ _ (field (.ref e) 4 >>= _) _ _ ⟨r,g,d,a,j⟩
 refine jQ (Y23 t rfl (x:=.none) rfl ?_)
 show wpAny _ _ (mkInt c >>= _) _ _ ⟨r,g,d,a,j⟩
 refine jQ (wpAny_mkInt ?_)
 show wpAny _ _ (setField (.ref e) 3 (rawInt (c+1)) >>= _) _ _ ⟨r,g,d,a+1,j⟩
 refine jQ (Y24 t (by simp) fun L u C=>?_)
 replace C:Heap.SameBut e r L:=C
 replace u:Jc L e it (c+1) (rawInt (T:Nat)) f1 old:=u
 show wpAny _ _ (setField (.ref e) 4 .none >>= _) _ _ ⟨L,g,d,a+1,j⟩
 refine jQ (Y24 u (by simp) fun v n G=>?_)
 replace G:Heap.SameBut e L v:=G
 replace n:Jc v e it (c+1) (rawInt (T:Nat)) f1 old:=n
 show wpAny _ _ (newTuple [.int c a,x] >>= _) _ _ ⟨v,g,d,a+1,j⟩
 refine jQ (wpAny_newTuple ?_)
 have H:Jc (v.push { cls:=.type "tuple",data:=.seq #[.int c a,x] }) e it (c+1) (rawInt (T:Nat)) f1 old:=jW _ n
 generalize p:v.push { cls:=.type "tuple",data:=.seq #[.int c a,x] }=g4 at H
 have B:v.objs.size=y.objs.size:=by rw[G.1,C.1,F.1]
 have X:e<y.objs.size:=zQ K
 have N:g4.get? y.objs.size=some { cls:=.type "tuple",data:=.seq #[.int c a,x] }:=by rw[<-p,<-B];exact yJ _ rfl
 have D:∀b o,b≠e->b≠it->y.get? b=some o->g4.get? b=some o:=fun b o f m R=>by
  rw[<-p];exact jW _ (G.extBut b o f (C.extBut b o f (F.extBut b o m R)))
 have U:st (i+1) g4:=M.keep _ _ _ V fun q z=>by rw[<-p];exact jW _ (G.extBut _ _ k.symm (C.extBut _ _ k.symm z))
 show wpAny _ _ (Builtin.SmallTypes.ownedTupleIsFree (.ref e) >>= _) _ _ ⟨g4,g,d,a+1,j⟩
 rw[B]
 refine jQ (Qtz (s:=⟨g4,g,d,a+1,j⟩) H (D T _ S O hT) fun Y W I=>?_)
 replace I:Heap.SameBut e g4 Y:=I
 simp only[jJf,if_false]
 refine kQ ⟨_,rfl,kQ (hQ Y W ?_ ?_ ?_)⟩
 .exact M.keep _ _ _ U fun q z=>I.extBut _ _ k.symm z
 .exact I.extBut _ _ (kYc X) N
 .exact fun b o f m R=>I.extBut b o f (D b o f m R)
end
theorem Qgt{env:Env}{T:String}{rest:List Expr}{kws:List Keyword}{Q:VP}
  (h:wpAny M A (spliced (backTo pos (starEach (e::rest) env))) (fun vs s₁=>wpAny M A (evalAll ((backToKw pos (keywordEach kws env)).map (·.2)))
   (fun kvs s₂=>wpAny M A (call (.type T) vs (((backToKw pos (keywordEach kws env)).filterMap (·.1)).zip kvs)) Q E s₂) E s₁) E s)
  (he:qb (backTo pos (starEach (e::rest) env)=(false,eval e env)::backTo pos (starEach rest env)))
  (hplain:qb ((backTo pos (starEach (e::rest) env)).any (·.1)=false))
  (c:qb ((backToKw pos (keywordEach kws env)).all (·.1.isSome)=true))
  (d:qb ((backToKw pos (keywordEach kws env)).any (·.1.isNone)=false)) :
  wpAny M A (callWith pos (.type T) [] (backTo pos (starEach (e::rest) env)) (backToKw pos (keywordEach kws env))) Q E s:=by
 unfold callWith
 refine jQ (Y30 (Y29 (Q:=fun a s₁=>wpAny M A (call (.type T) ([]++a.pos) a.kw) Q E s₁) ?_ (fun a s₁ b=>jQ (Y62 ?_)) fun _ _ x=>x))
 .rw[he]at h⊢
  exact evalArgs_kwB c h
 .simp only[hplain,d,Bool.or_false]
  refine jQ (kQ ?_)
  exact jQ (Y29 b (fun r s₂ f=>jQ (Y30 (wpAny_point (kQ f)))) fun _ _ x=>x)
structure ESt(m:Bool)(e it a:Addr)(i:Nat)(c:Int)(H:Hp)(h:Heap):Prop where
 now:(∃old,IsEnum h e it c old)\/(∃(T:Addr) (f1:Bool) (old:Value) (xs:List V),Jc h e it c (rawInt (T:Nat)) f1 old/\H T=some (.tup xs))
 one:itSt m it a i h
section
variable{m:Bool}{e:Addr}
theorem ESt.lt(X:Cx)(st:ESt m e it a i c H s.heap):∀b∈[e,it],b<(qa s):=by
 intro b d
 simp only[kK,jXc,or_false]at d
 rcases d with rfl | rfl
 .rcases st.now with⟨_,e⟩ | ⟨T,h,f,g,e,_⟩
  .exact zQ e
  .exact zQ e
 .obtain⟨q,e,_⟩:=(Jm (P:=X.prog) (w:=X.w) m b a).obj _ _ st.one;exact zQ e
theorem ESt.keep(X:Cx){h':Heap}{H':Hp}(st:ESt m e it a i c H s.heap)(k:∀b∈[e,it],∀q,s.heap.get? b=some q->h'.get? b=some q)(t:∀b xs,H b=some (.tup xs)->H' b=some (.tup xs)):ESt m e it a i c H' h':=by
 exists ?_,(Jm (P:=X.prog) (w:=X.w) m it a).keep _ _ _ st.one (k it (by simp))
 rcases st.now with⟨d,f⟩ | ⟨T,j,d,xs,f,g⟩
 .exact .inl ⟨d,k e (by simp) _ f⟩
 .exact .inr ⟨T,j,d,xs,k e (by simp) _ f,t _ _ g⟩
theorem Qua{x:V}(l:e≠it)(I:Inv X pins σ H s)(C:∀b∈[e,it],FpOk X pins H b)(st:ESt m e it a i c H s.heap)(N:Sq X.K m H a xs)(G:xs[i]?=some x)
  (u:∀h',Inv X pins σ (upd H (qa s) (.tup [.int c,x])) { s with heap:=h',toks:=s.toks+1 }->ESt m e it a (i+1) (c+1) (upd H (qa s) (.tup [.int c,x])) h'->Q (some (.ref (qa s))) { s with heap:=h',toks:=s.toks+1 }) :
  qd X A (pyNext (.ref e)) Q E s:=by
 obtain⟨J,F,y,O⟩:=I.sq N
 obtain⟨v,z,r⟩:=F.get G
 have D:∀h':Heap,(∃q,h'.get? e=some q)->itSt m it a (i+1) h'->h'.get? (qa s)=some { cls:=.type "tuple",data:=.seq #[.int c s.toks,v] }->(∀b q,b≠e->b≠it->s.heap.get? b=some q->h'.get? b=some q)->Inv X pins σ (upd H (qa s) (.tup [.int c,x])) { s with heap:=h',toks:=s.toks+1 }:=fun h' g f k j=>by
  have L:Inv X pins σ (upd H (qa s) (.tup [.int c,x])) { s with heap:=h' }:=I.tupNew (ch:=[e,it]) (its:=[.int c s.toks,v]) (jJ _) (.cons ⟨_,rfl⟩ (.cons r .nil)) (Z1 2) k C
   (fun b q d e=>by simp only[kK,jXc,or_false,not_or]at d;exact j b q d.1 d.2 e)
   (fun b d=>by
    simp only[kK,jXc,or_false]at d
    rcases d with rfl | rfl
    .exact g
    .obtain⟨q,e,_⟩:=(Jm (P:=X.prog) (w:=X.w) m b a).obj _ _ f;exists q,e)
  exact L.tok _
 rcases st.now with⟨o,p⟩ | ⟨T,S,o,M,p,n⟩
 .refine Ks (Jm m it a) p st.one y z l fun h' g f k j=>?_
  exact u h' (D h' ⟨_,g⟩ f k j) ⟨.inr ⟨(qa s),false,_,_,g,Qc⟩,f⟩
 .obtain⟨_,its,_,R,B,_⟩:=I.hok T _ n
  have t:∀b∈[e,it],T≠b:=fun b d w=>by rw[w,(C b d).1]at n;cases n
  refine Qcb (Jm m it a) p B (t e (by simp)) (t it (by simp)) st.one y z l fun h' g f k j=>?_
  exact u h' (D h' ⟨_,g⟩ f k j) ⟨.inr ⟨T,true,_,M,g,by rw[Qj (xZ (zQ B))];exact n⟩,f⟩
theorem Qyx(D:A.handled=none)(I:Inv X pins σ H s)(y:∀b∈[e,it],FpOk X pins H b)(st:ESt m e it a i c H s.heap)(G:Sq X.K m H a xs)(k:xs.length<=i)
  (q:∀h',Inv X pins σ H { s with heap:=h' }->Q none { s with heap:=h' }):qd X A (pyNext (.ref e)) Q E s:=by
 obtain⟨u,l,r,L⟩:=I.sq G
 have J:=l.length
 obtain⟨v,F,N,C,n,x⟩:=y it (by simp)
 have g:∀{g0:Value} {j:Bool} {d:Value},Jc s.heap e it c g0 j d->qd X A (pyNext (.ref e)) Q E s:=fun f=>
  Qes D (Jm m it a) f st.one r (kKc.mpr Om) fun h' B=>q h' (I.turned (t':=s.toks) (fun b o p z=>B b o p z) v F C n x)
 rcases st.now with⟨d,f⟩ | ⟨T,j,d,O,f,M⟩
 .exact g f
 .exact g f
def Qub(H:Hp)(n:Int)(ts:List Addr)(xs:List V):Prop:=∀(j:Nat) T x,ts[j]?=some T->xs[j]?=some x->H T=some (.tup [.int (n+(j:Nat)),x])
theorem Quc{S:Addr}(J:e≠it)(hh:A.handled=none)(Y:Sq X.K m H1 a xs)(D:H1 S=none)(hz:xs.length<=sizeLine) :
  ∀(k i:Nat) (s:Shared) (H:Hp) (ts:List Addr),xs.length-i=k->i<=xs.length->Inv X pins σ H s->(∀b∈[e,it],FpOk X pins H b)->ESt m e it a i (n+(i:Nat)) H s.heap->Same H1 H->H S=some (.lst (ts.map V.ref))->ts.length=i->Qub H n ts xs ->
  (∀s' H' ts',Inv X pins σ H' s'->Same H1 H'->H' S=some (.lst (ts'.map V.ref))->ts'.length=xs.length->Qub H' n ts' xs->R (.ok (.ret .none)) s') ->
  codeAny (model X.prog X.w) A (.builtin "list.extend.loop" ⟨[.ref S,.ref e,.none],[]⟩) R s:=by
 intro k
 induction k with
 |zero=>
  intro i s H ts Z hi I v y o g L G hR
  refine Y28 F.entry_extend_loop ?_
  rw[Y35 Y68 _]
  show wpAny _ A.in1 (pyNext (.ref e) >>= _) _ _ s
  refine jQ (Qyx (A:=A.in1) hh I v y (o.sq Y) Om fun P z=>?_)
  exact kQ (hR _ H ts z o g Om G)
 |succ k ih=>
  intro i s H ts Z hi I v y o g L G hR
  have O:i<xs.length:=Om
  have W:xs[i]?=some (xs[i]'Om):=gE Om
  refine Y28 F.entry_extend_loop ?_
  rw[Y35 Y68 _]
  show wpAny _ A.in1 (pyNext (.ref e) >>= _) _ _ s
  refine jQ (Qua (A:=A.in1) J I v y (o.sq Y) W fun P z M=>?_)
  have l:H (qa s)=none:=I.hok.fresh (jJ _)
  have U:S≠(qa s):=Qm g l
  have f:upd H (qa s) (.tup [.int (n+(i:Nat)),xs[i]'Om]) S=some (.lst (ts.map V.ref)):=by rw[Qj U];exact g
  obtain⟨zz,u,nn,r,N,Q⟩:=z.lstM f
  rw[jX]at N
  show wpAny _ A.in1 (updateSeq S (·.push (Value.ref (qa s))) >>= _) _ _ _
  refine jQ ?_
  have nf:∀b∈[e,it],b≠S:=fun b c w=>by rw[<-w,(v b c).1]at g;cases g
  have E:∀b∈[e,it],b≠(qa s):=fun b c=>xZ (y.lt X b c)
  refine wpAny_updateSeq Q rfl (kQ ⟨kXd Y68 _,?_⟩) (by rw[kX];lia) (by show(u.toArray.push _).size<=sizeLine+1;rw[Array.size_push,kX];lia)
  refine ih (i+1) _ (upd (upd H (qa s) (.tup [.int (n+(i:Nat)),xs[i]'Om])) S (.lst ((ts++[(qa s)]).map V.ref))) (ts++[(qa s)]) Om O ?_ ?_ ?_ ?_ Qc (by rw[jZ];simp[L]) ?_ hR
  .exact z.lset (t':=s.toks+1) (its':=u++[.ref (qa s)]) f Q (by simp) (by rw[yK];exact r.append (.cons rfl .nil)) (by rw[jX,jZ];simp;lia)
  .exact fun b c=>((v b c).upd (E b c)).upd (nf b c)
  .rw[show n+((i+1:Nat):Int)=n+(i:Nat)+1 by lia]
   exact ESt.keep X (s:={ s with heap:=P,toks:=s.toks+1 }) M (fun b c q d=>(jXd _ _ (Ne.symm (nf b c))).trans d) fun b us d=>by rw[Qj (fun w=>by rw[w,f]at d;cases d)];exact d
  .exact fun b q d=>by rw[Qj (Qm d D),Qj (Qm (o _ _ d) l)];exact o _ _ d
  .intro j T x p B
   by_cases hj:j<ts.length
   .rw[jYd hj]at p
    have C:=G j T x p B
    rw[Qj (fun w=>by rw[w,g]at C;cases C),Qj (Qm C l)]
    exact C
   .have ej:j=ts.length:=by
     have:=(jK.mp p).1
     rw[jZ]at this
     simp at this
     lia
    subst ej
    rw[jJe (jJ _)]at p
    simp at p
    subst p
    rw[L]at B⊢
    rw[W]at B
    cases B
    rw[Qj (Ne.symm U),Qc]
end
theorem Qet{a b:Expr}{tb:TE}{p p2 pos2 kp:Pos}(m:Bool)(B:X.calm=true)(hm:X.mg "list"=none)(aa:X.mg "enumerate"=none)(ha:PA X [a] ta)(i:PE X b tb)(hg:qb (Gl X "list"))(U:qb (Gl X "enumerate"))
  (hs:qb (starEach [.Call (.Name "enumerate" p2) [a] [⟨some "start",b,kp⟩] pos2] X.env=[(false,eval (.Call (.Name "enumerate" p2) [a] [⟨some "start",b,kp⟩] pos2) X.env)])) (L:qb (starEach [a] X.env=[(false,eval a X.env)])) :
  PE X (.Call (.Name "list" p) [.Call (.Name "enumerate" p2) [a] [⟨some "start",b,kp⟩] pos2] [] pos) (fun σ H Q=>ta σ H fun vs H0=>tb σ H0 fun y H1=>∃l1 xs n,vs=[.ref l1]/\y=.int n/\Builtin.SmallTypes.fitsIndex n=true/\Sq X.K m H1 l1 xs /\
   ∀l ts H2,H1 l=none->Same H1 H2->H2 l=some (.lst (ts.map V.ref))->ts.length=xs.length->Qub H2 n ts xs->Q (.ref l) H2):=by
 intro pins s σ H Q I h
 refine Call_ (Kp I hg hm Qhl (Y38 ?_ hs rfl))
 rw[hs]
 show wpAny _ _ (spliced ((false,eval (.Call (.Name "enumerate" p2) [a] [⟨some "start",b,kp⟩] pos2) X.env)::backTo pos (starEach [] X.env))) _ _ s
 refine Y57 (Y41 (Kp I U aa (u:=.type "enumerate") (by rfl) (Qgt (thn (ha pos2 pins s σ H _ I h) fun us s0 P=>?_) (he:=by rw[L];rfl) (hplain:=by rw[L];rfl))))
 obtain⟨vs,H0,I0,r0,q0⟩:=P
 refine kws_cons (thn (i pins s0 σ H0 _ I0 q0) fun u d ⟨y,H1,I1,r2,O⟩=>kws_nil ?_)
 obtain⟨l1,xs,n,rfl,rfl,G,O,q⟩:=O
 obtain⟨u1,rfl,e1⟩:=r0.one
 cases e1
 obtain⟨t2,rfl⟩:=r2
 obtain⟨Z,r1,p1,z1⟩:=I1.sq O
 have ab:=r1.length
 refine Qir (Q₁:=fun g f=>f.TypeIs g "enumerate"/\_) F.called_enumerate (Qcp _ _) (Qer _ _) F.entry_enumerate_new F.entry_object_init (Qis (Qnk m l1 Z) G) ⟨p1,?_⟩ fun g f Y=>⟨Y.1,PySem.F.args_object_init_2 g _,_,Qcq F.called_enumerate.init.lookup F.called_enumerate.made Dc,Y.1,rfl,Y.2⟩
 have z2:(d.heap.push (Jl (itN m) l1)).objs.size=(qa d)+1:=jJd ..
 have k:((d.heap.push (Jl (itN m) l1)).push { cls:=.type "enumerate",data:=.fields #[.none,.bool false,.ref (qa d),rawInt n,.none,.none] }).get? (d.heap.push (Jl (itN m) l1)).objs.size=some { cls:=.type "enumerate",data:=.fields #[.none,.bool false,.ref (qa d),rawInt n,.none,.none] }:=yJ _ rfl
 have w:((d.heap.push (Jl (itN m) l1)).push { cls:=.type "enumerate",data:=.fields #[.none,.bool false,.ref (qa d),rawInt n,.none,.none] }).get? (qa d)=some (Jl (itN m) l1):=jW _ (yJ _ rfl)
 rw[z2]at k
 show _/\_
 rw[z2]
 have C:∀b o,d.heap.get? b=some o->((d.heap.push (Jl (itN m) l1)).push { cls:=.type "enumerate",data:=.fields #[.none,.bool false,.ref (qa d),rawInt n,.none,.none] }).get? b=some o:=fun b o z=>jW _ (jW _ z)
 generalize (d.heap.push (Jl (itN m) l1)).push { cls:=.type "enumerate",data:=.fields #[.none,.bool false,.ref (qa d),rawInt n,.none,.none] }=h' at w k C
 exists ⟨_,k,rfl⟩,?_
 refine Calls.spliced_nil ?_
 have I2:Inv X pins σ H1 { d with heap:=h' }:=I1.kept (t':=d.toks) C
 have E:∀b∈[(qa d)+1,(qa d)],(qa d)<=b:=fun b i=>by
  simp only[kK,jXc,or_false]at i
  rcases i with rfl | rfl
  .exact Nat.le_add_right _ _
  .exact jJ _
 have hf:∀b∈[(qa d)+1,(qa d)],FpOk X pins H1 b:=fun b i=>I1.fpOk (E b i) (I1.hok.fresh (E b i))
 have J:ESt m ((qa d)+1) (qa d) l1 0 (n+((0:Nat):Int)) H1 h':=⟨.inl ⟨_,by rw[show n+((0:Nat):Int)=n by lia];exact k⟩,Qjc m w⟩
 have W:(qa d)+1≠(qa d):=Nat.succ_ne_self _
 generalize (qa d)+1=z at *
 generalize (qa d)=i1 at *
 have r:=ESt.lt X (s:={ d with heap:=h' }) J
 have D:=k
 refine callType_codes (Q₁:=fun g f=>g=.ref h'.objs.size/\f={ d with heap:=h'.push { cls:=.type "list",data:=.seq #[] } }) PySem.F.called_list (PySem.F.typeCall_list_1 _) PySem.F.entry_list_init (code_list_new _ ⟨rfl,rfl⟩) ?_
 rintro g f ⟨rfl,rfl⟩
 have N:(h'.push { cls:=.type "list",data:=.seq #[] }).get? h'.objs.size=some { cls:=.type "list",data:=.seq #[] }:=yJ _ rfl
 exists ⟨_,N,rfl⟩,PySem.F.args_list_init_2 _ _,?_
 show wpAny _ _ (do let R ← Builtin.List.listItems (.ref h'.objs.size);Builtin.List.listUpdate (.ref h'.objs.size) (fun _=>#[]);letGo R.toList.reverse;Builtin.List.listExtendWith (.ref h'.objs.size) (.ref z) .none) _ _ _
 refine jQ ?_
 unfold Builtin.List.listItems
 refine jQ (wpAny_seqItems N rfl (kQ ?_))
 show wpAny _ _ (updateSeq h'.objs.size (fun _=>#[]) >>= fun _=>letGo (#[]:Array Value).toList.reverse >>= fun _=>Builtin.List.listExtendWith (.ref h'.objs.size) (.ref z) .none) _ _ _
 refine jQ (wpAny_updateSeq N rfl ?_)
 have w:=jXf (Obj.mapSeq (fun _=>(#[]:Array Value))) N rfl
 have kp:∀b o,b≠h'.objs.size->h'.get? b=some o->((h'.push { cls:=.type "list",data:=.seq #[] }).update h'.objs.size (Obj.mapSeq (fun _=>(#[]:Array Value)))).get? b=some o:=fun b o i e=>(jXd _ _ (Ne.symm i)).trans (jW _ e)
 refine jQ (wpAny_letGo ?_)
 generalize ac:(h'.push { cls:=.type "list",data:=.seq #[] }).update h'.objs.size (Obj.mapSeq (fun _=>(#[]:Array Value)))=h2 at w kp
 have nz:h'.objs.size≠z:=kYc (r z (by simp))
 have v:Shared.TypeIs { d with heap:=h2 } (.ref z) "enumerate":=⟨_,kp z _ (Ne.symm nz) D,rfl⟩
 unfold Builtin.List.listExtendWith
 refine jQ (Y40 v ?_)
 have n1:Builtin.List.listSameRef (.ref h'.objs.size) (.ref z)=false:=by simp[Builtin.List.listSameRef,nz]
 have n2:(Value.type "enumerate" == Value.type "list")=false:=Dc
 have n3:(Value.type "enumerate" == Value.type "tuple")=false:=Dc
 simp only[n1,n2,n3,Bool.or_false,jJf,if_false]
 refine jQ (wpAny_pyIter_enum (kp z _ (Ne.symm nz) D) ?_)
 refine jQ (Y30 ?_)
 unfold Builtin.List.listLengthHint
 refine jQ (Y64 v Qiq ?_)
 show wpAny _ _ (specialOf (Value.ref z) (Str.ofString "__length_hint__") >>= _) _ _ _
 refine jQ (Y64 v Qgs ?_)
 refine kQ ?_
 show wpAny _ _ (rule "list.extend.makes-room" >>= fun _=>Builtin.List.listTouch (.ref h'.objs.size) >>= fun _=>
  again (.builtin "list.extend.loop" ⟨[.ref h'.objs.size,.ref z,.none],[]⟩)) _ _ _
 refine jQ (Y58 ?_)
 refine jQ ?_
 show wpAny _ _ (updateSeq h'.objs.size (·.push .none) >>= fun _=>updateSeq h'.objs.size (·.pop)) _ _ _
 refine jQ (wpAny_updateSeq w rfl ?_)
 have k:=jXf (Obj.mapSeq (·.push Value.none)) w rfl
 refine wpAny_updateSeq (hz:=by seq_fits) k rfl ?_
 have g3:=jXf (Obj.mapSeq (·.pop)) k rfl
 have kq:∀b o,b≠h'.objs.size->h'.get? b=some o->((h2.update h'.objs.size (Obj.mapSeq (·.push Value.none))).update h'.objs.size (Obj.mapSeq (·.pop))).get? b=some o :=
  fun b o i e=>(jXd _ _ (Ne.symm i)).trans ((jXd _ _ (Ne.symm i)).trans (kp b o i e))
 have M:H1 h'.objs.size=none:=I2.hok.fresh (jJ _)
 refine kQ ⟨kXd Y68 _,Quc (n:=n) (X:=X) (pins:=pins) (σ:=σ) (A:=X.A.in1) (S:=h'.objs.size) (H1:=H1) W (I.ok.hd B) O M Om xs.length 0 _ (upd H1 h'.objs.size (.lst [])) [] rfl (wJ _) ?_ ?_ ?_ (Qd M _) Qc rfl (fun j T x e=>by simp at e) fun s' H' ts I' sm hS hl hp=>?_⟩
 .exact I2.laid (fun b o e=>kq b o (xZ (zQ e)) e) (jJ _) ⟨wJ _,[],_,.nil,g3⟩
 .exact fun c B=>(hf c B).upd (xZ (r c B))
 .exact ESt.keep X (s:={ d with heap:=h' }) J (fun c B q e=>kq c q (xZ (r c B)) e) fun c us e=>by rw[Qj (Qm e M)];exact e
 .exact⟨rfl,.ref _,H',I',rfl,q _ ts H' M sm hS hl hp⟩
end L2
namespace Nb
open PySem L2
abbrev sPSe:Stmt:=top 29
def nl10:Str:=⟨#[10]⟩
theorem Qqj:("\n":Str)=nl10:=Dk
theorem Qcc(x:Str)(w:Nat):∀(cuts:List Nat) (a:Nat),(StrLaws.partsFrom x w a cuts).length=cuts.length+1
 |[],_=>rfl
 |c::r,a=>by
  show(StrLaws.partsFrom x w (c+w) r).length+1=_
  rw[Qcc x w r]
  rfl
theorem Wq{a b:Str}(h:a.length<=200000):a.length<=sizeLine/\(Builtin.Str.partsBetween a (Builtin.Str.occurrences a b 0 a.length (a.length+1)) b.length).length<=sizeLine:=by
 exists"z"
 exists Om,?_
 rw[StrLaws.partsBetween_eq,Qcc]
 have:=StrLaws.occ_length_le_len a b 0 a.length (a.length+1)
 lia
theorem mem_join{c:Nat}:∀{xs:List Str} {x:Str},x∈xs->(∀d∈sg x,d∈sg (Str.join ⟨#[c]⟩ xs))/\x.length<=(Str.join ⟨#[c]⟩ xs).length
 |[y],x,h=>by rw[jV.mp h];exists fun _ z=>z,jJ _
 |y::z::r,x,h=>by
  rw[<-Xl (Str.join _ _),Qyg,jZ,yQ,Xl,Xl]
  rcases kK.mp h with e | e
  .rw[e];exists fun d a=>zY _ a,Nat.le_add_right _ _
  .obtain⟨b,f⟩:=mem_join (c:=c) e
   exists fun d a=>yV _ (kJ _ (b d a)),Om
theorem Vh{c:Nat}(h:Pln x):∀w∈Txt.split x ⟨#[c]⟩,Pln w:=fun w g=>by
 have e:Str.join ⟨#[c]⟩ (Txt.split x ⟨#[c]⟩)=x:=StrLaws.join_split _ _
 obtain⟨b,a⟩:=mem_join (c:=c) g
 rw[e]at b a
 exists pln_iff.mpr fun d f=>pln_iff.mp h.1 d (b d f),wZ a h.2
theorem Qcd{c:Nat}:(Txt.split x ⟨#[c]⟩).length<=x.length+2:=by
 unfold Txt.split
 split
 .show 1<=_;lia
 .split
  .show 1<=_;lia
  .rw[StrLaws.partsBetween_eq,Qcc]
   have:=StrLaws.occ_length_le_len x ⟨#[c]⟩ 0 x.length (x.length+1)
   lia
theorem Qyy(a:X.K=K):SlR X (rSlT K):=by subst a;exact Qjb
def Wr(n:Int)(B:List BR)(Ls:List Str)(k:Nat):Prop:=∀j b,j<k->(bns B)[j]?=some b->∃row,Ls[(wks B).length+j]?=some row/\IsBR n b row
def Qce(n:Int)(B:List BR)(Ls:List Str)(A:List Ch)(k:Nat):Prop:=∀j b,j<k->(bns B)[j]?=some b->Ls[(wks B).length+j]?=some (brC n B A b)
structure SeenK(n:Int)(B:List BR)(Ls:List Str)(rest:Str)(bad:Int->Prop)(good:List Ch->Prop):Prop where
 b1:∀i w A,(wks B)[i]?=some w->Zw n B Ls ((wks B).take i) A->Qgq n B Ls i w->bad (i:Int)
 b2:∀A j b,Zw n B Ls (wks B) A->(bns B)[j]?=some b->Wr n B Ls j->(¬∃row,Ls[(wks B).length+j]?=some row/\IsBR n b row)->bad (((wks B).length+j:Nat):Int)
 b3:∀A,Zw n B Ls (wks B) A->Wr n B Ls (bns B).length->((wks B).length+(bns B).length<Ls.length\/rest≠"")->bad (((wks B).length+(bns B).length:Nat):Int)
 b4:∀A j b,Zw n B Ls (wks B) A->Wr n B Ls (bns B).length->Ls.length=(wks B).length+(bns B).length->rest=""->(bns B)[j]?=some b->Qce n B Ls A j->Ls[(wks B).length+j]?≠some (brC n B A b)->bad (((wks B).length+j:Nat):Int)
 b5:∀A,Zw n B Ls (wks B) A->Wr n B Ls (bns B).length->Ls.length=(wks B).length+(bns B).length->rest=""->Qce n B Ls A (bns B).length->dueF n B A≠none->bad (((wks B).length+(bns B).length:Nat):Int)
 ok:∀A,Zw n B Ls (wks B) A->Wr n B Ls (bns B).length->Ls.length=(wks B).length+(bns B).length->rest=""->Qce n B Ls A (bns B).length->dueF n B A=none->good A
theorem Qgu{A:List Ch}(h:Zw n B Ls (wks B) A):PlanFor n B A:=by
 exists ?_,fun c b=>h.2.1 c b
 have a:∀w∈wks B,hasW B w=true:=fun w a=>by
  rw[<-h.1]at a
  obtain⟨c,b,rfl⟩:=zK.mp a
  obtain⟨l,k,d,_⟩:=h.2.1 c b
  exact hasW_iff.mpr ⟨_,_,_,d⟩
 rw[h.1,List.filter_eq_self.mpr a]
theorem Qqk{ps:List (Key×V)}(nd:(ps.map (·.1)).Nodup):∀m,m<=ps.length->Xi (ps.take m)=ps.take m
 |0,_=>rfl
 |m+1,hm=>by
  have e:ps[m]?=some ps[m]:=gE hm
  rw[Je e,Qqk nd m Om,Wa e]
  unfold putK
  rw[Y20]
  intro h
  obtain⟨x,d,ex⟩:=jXe.mp h
  have ex:=kZ ex
  obtain⟨j,b,a⟩:=kJd d
  rw[zZ]at b
  rw[List.getElem_take]at a
  have c:(ps.map (·.1))[j]'(by rw[jX];lia)=(ps.map (·.1))[m]'(by rw[jX];lia):=by
   rw[List.getElem_map,List.getElem_map,a,ex]
  have:=(List.getElem_inj nd).mp c
  lia
theorem Qql(bk:BookOk n B):(wks B).length<=400/\(bns B).length<=400:=by
 have b:(wks B).length<=B.length:=xQ _ _
 have a:(bns B).length<=B.length:=xQ _ _
 have:=bk.wb.len
 lia
theorem Qko{ts:List Addr}{bs:List Str}(h:Qub H m ts (bs.map V.str)){b:Str}{t:Addr}(a:ts[j]?=some t)(c:bs[j]?=some b):H t=some (.tup [.int (m+(j:Nat)),.str b]):=h j t (.str b) a (by rw[yZ,c];rfl)
theorem Qqm{m:Nat}(h:m<=1000):Builtin.SmallTypes.fitsIndex ((m:Nat):Int)=true:=by
 unfold Builtin.SmallTypes.fitsIndex
 rw[wV,decide_eq_true_iff,decide_eq_true_iff]
 lia
theorem Qqn(h:ws.Nodup):(ws.map (inr:Str->Key)).Nodup:=by
 unfold List.Nodup at h⊢
 rw[List.pairwise_map]
 exact h.imp fun h e=>h (Y37 e)
theorem Qmg{A:List Ch}(h:Paired (fun v (c:Ch)=>∃t u,v=.ref t/\SqT K H t [.str c.1,.ref u]/\SqT K H u [.str c.2.1,.int c.2.2]) ys A):∃ps:List (Key×V),PairsK K H ys ps/\Paired (fun(p:Key×V) (q:Ch)=>p.1=inr q.1/\∃t,p.2=.ref t/\SqT K H t [.str q.2.1,.int q.2.2]) ps A:=by
 induction h with
 |nil=>exists [],.nil,.nil
 |@cons v c ys A hv _ ih=>
  obtain⟨ps,f,b⟩:=ih
  obtain⟨t,u,e,d,a⟩:=hv
  exists (inr c.1,.ref u)::ps,.cons ⟨t,e,d⟩ f,.cons ⟨rfl,u,rfl,a⟩ b
theorem Qmh{ps:List (Key×V)}{A:List Ch}(h:Paired (fun(p:Key×V) (q:Ch)=>p.1=inr q.1/\∃t,p.2=.ref t/\SqT K H t [.str q.2.1,.int q.2.2]) ps A):ps.map (·.1)=A.map (inr∘(·.1)):=by
 induction h with
 |nil=>rfl
 |cons hv _ ih=>rw[zX,zX,ih,hv.1];rfl
inductive Qqo(K:Fg)(CX:Addr)(vs:List V)(H:Hp)(Q:VK)(E:XK):Prop|mk(d:Addr)(text:Str)(n:Int)(us:List V)(B:List BR)(Ls:List Str)(rest:Str)(_:vs=[.ref d,.str text])(_:H d=some (.lst us))(_:RowsB H us B)(_:BookOk n B)(_:Pln text)(_:Txt.split text nl10=Ls++[rest])(_:SeenK n B Ls rest (fun z=>RE CX H z E) fun A=>∀(g:Addr) (H':Hp),Same H H'->H g=none->PlanAt K H' g A->Q (.ref g) H'):Qqo K CX vs H Q E
section
variable{w:World}
theorem scPSe:FnScope ["book","text","facts","rows","rest","taken","benches","count","number","bench","plan"] ["book","text"] (Qh sPSe):=Sc
theorem okPSe(G:NPk P w K mg base CX DX fX fdX fo)(T:FcTxt K mg C){fI:Addr}(a2:Mk K C fI)(GI:FnOk P w K mg base CX0 2 fI fdI ["self","book"] (Qia K C))(bI:Binds K fdI ["self","book"] [])(F:Fn K mg "plan_seen" sPSe)(M:Mg mg)(y:Cal P w K mg base 2 "is_bench_row" ["facts","bench","row"] (Qvo K C))(J:Cal P w K mg base 4 "bench_row" ["facts","bench","taken"] (Qvk K C))(aa:Cal P w K mg base 5 "broken" ["book","plan"] (Qte K))(r:CalG P w K mg base CX 4 "choices_seen" ["facts","rows"] (Qkn K C CX)):CalG P w K mg base CX 6 "plan_seen" ["book","text"] (Qqo K CX):=by
 refine Qqe F scPSe (a:=fun f be A aQ s H vs Q E hr h=>?_)
 obtain⟨d,I,n,us,B,q,m,rfl,hd,hB,bk,pt,eL,SK⟩:=h
 have hu:=Z6 1 hr.un
 refine⟨_,(Qg (Z4 2 scPSe.nd (Qnb a2 GI (hr.mono Dc) rfl T.mgC bI .nil Jx (Qa (pv 0) Qf)))
  (Qg (Z4 3 scPSe.nd (Yt Y4 PySem.F.slot_str_split PySem.F.type_str_split Qel (pv 1) (Qa Qq Qf)))
  (Qg (Z4 4 scPSe.nd (Quu Y1 PySem.F.slot_list_pop PySem.F.type_list_pop mt_pop (pv 3)))
  (Qg (Z4 5 scPSe.nd (pe_fnG r (hr.mono Dc) (Qa (pv 2) (Qa (pv 3) Qf))))
  (Qg (Z4 6 scPSe.nd (Qet true rfl M.list_ M.enumerate_ (Qa (Yq (pv 2) rfl) Qf) (Qr Qu rfl M.len Xr (Qa (pv 5) Qf))))
  (Qg (Z4 7 scPSe.nd (Qk Qy (Qr Qu rfl M.len Xr (Qa (pv 5) Qf)) (Qr Qu rfl M.len Xr (Qa (pv 6) Qf))))
  (Qg (Yb PassesOwn.leaving rfl (Xd (pv 6)) (Wc (K:=K) (i:=8) (j:=9) rfl rfl scPSe.nd rfl rfl rfl rfl) (Qi (Xp (PW.pt (Wy (Ql Qwb (pv 8) (Qr Qu rfl M.len Xr (Qa (pv 3) Qf)) (Qp _)) (Kq (Vj (Jz (Xk y (hr.mono Dc) (Qa (pv 2) (Qa (pv 9) (Qa (Qs Qn (pv 3) (pv 8)) Qf))))))))) (Qi (Kg G.ei G.gi G.bi G.lk G.fc G.kc (hr.mono Dc) (Qa (pv 8) Qf))) Qv)))
  (Qg (Xp (PW.pt (Wy (Ql Qcj (Qr Qu rfl M.len Xr (Qa (pv 3) Qf)) (pv 7) (Qp _)) (Kq (Ql Wb (pv 4) Qq (Qp _))))) (Qi (Kg G.ei G.gi G.bi G.lk G.fc G.kc (hr.mono Dc) (Qa (pv 7) Qf))) Qv)
  (Qg (Yb PassesOwn.leaving rfl (Xd (pv 6)) (Wc (K:=K) (i:=8) (j:=9) rfl rfl scPSe.nd rfl rfl rfl rfl) (Qi (Xp (Ql Wb (Qs Qn (pv 3) (pv 8)) (Xk J (hr.mono Dc) (Qa (pv 2) (Qa (pv 9) (Qa (pv 5) Qf)))) (Qp _)) (Qi (Kg G.ei G.gi G.bi G.lk G.fc G.kc (hr.mono Dc) (Qa (pv 8) Qf))) Qv)))
  (Qg (Z4 10 scPSe.nd (Yg (Zm rfl) rfl M.dict_ Qaz (Qa (Yh ["choice"] [none] rfl (Xd (pv 5)) (fun _ _ _=>(Z3 0 Z2)) (fun _ _ _=>Zg) (fun _ _ _=>(Yf (Qa (Qs (Wd (K:=K) rfl) (pv 0) Qe) (Qa (Xc (Qyy (K:=K) rfl) (pv 0) (Xe Qe) Xn) Qf))))) Qf)))
  (Qg (Xp (Ql Qdp (Xk aa (hr.mono Dc) (Qa (pv 0) (Qa (pv 10) Qf))) Jk (Qp _)) (Qi (Kg G.ei G.gi G.bi G.lk G.fc G.kc (hr.mono Dc) (Qa (pv 7) Qf))) Qv)
  (Qi (Qx (pv 10)))))))))))))),?_⟩
 refine Qfy ?_;intros
 exists"z"
 obtain⟨wf,bf⟩:=Qql bk
 have n1:=bk.n1
 have bm:=bk.n12
 exists _,rfl,fun p dx fp a0 a5=>?_
 dsimp only[tNil]
 have s1:Same H (upd (upd H dx (.own p)) p (.ins C dx [])):=(Qd a0 _).trans (Qd (by rw[Qj a5.symm];exact fp) _)
 have ao:upd (upd H dx (.own p)) p (.ins C dx []) p=some (.ins C dx []):=Qc
 generalize upd (upd H dx (.own p)) p (.ins C dx [])=H1 at s1 ao⊢
 exists p,d,dx,n,us,B,rfl,ao,s1 _ _ hd,hB.same s1,bk,fun H2 ar fr=>⟨rfl,?_⟩
 have s2:Same H H2:=fun b o e=>fr b o (s1 _ _ e) (Qm e fp)
 clear s1 ao fr
 obtain⟨a3,lw,lb,lh,ls,la,ds,fs,br,yh,bg,ya,hF⟩:=id ar
 have p2:=pt.2
 obtain⟨f1,f2⟩:=Wq (a:=I) (b:="\n") Om
 exists _,rfl,rfl,_,_,rfl,rfl,Dk,f1,f2,fun S aF=>?_
 rw[Qqj,eL]
 have s3:=Qd aF (.lst ((q++[m]).map V.str))
 have h3:upd H2 S (.lst ((q++[m]).map V.str)) S=some (.lst ((q++[m]).map V.str)):=Qc
 generalize upd H2 S (.lst ((q++[m]).map V.str))=H3 at s3 h3⊢
 exists _,rfl,.inl ⟨rfl,_,Qb h3⟩,S,_,.str m,rfl,rfl,h3,?_,?_
 .rw[yK,jZ]
  show(q.map V.str++[V.str m])[(q.map V.str).length+1-1]?=_
  rw[Nat.add_sub_cancel,jJe (jJ _),Nat.sub_self]
  rfl
 have ed:((q++[m]).map V.str).dropLast=q.map V.str:=by rw[yK];exact List.dropLast_concat
 rw[ed]
 have s4:Same H2 (upd H3 S (.lst (q.map V.str))):=Yp s3 aF
 have h4:upd H3 S (.lst (q.map V.str)) S=some (.lst (q.map V.str)):=Qc
 generalize upd H3 S (.lst (q.map V.str))=H4 at s4 h4⊢
 have ls:q.length<=200001:=by
  have:=Qcd (c:=10) (x:=I)
  rw[show Txt.split I ⟨#[10]⟩=q++[m]from eL,jZ]at this
  lia
 have pL:∀x∈q,Pln x:=fun x hx=>Vh (c:=10) pt x (by rw[show Txt.split I ⟨#[10]⟩=q++[m]from eL];exact zY _ hx)
 have aB:=s2.trans s4
 have aC:=ar.same s4
 exists _,rfl,_,rfl,p,S,n,B,q,rfl,aC,bk,h4,Om,fun R hS g H5 s5 hg hA=>?_,fun i w R ew hS aj=>(SK.b1 i w R ew hS aj).same aB
 have lA:R.length=(wks B).length:=by have:=congrArg List.length hS.1;rw[jX]at this;exact this
 obtain⟨ba,aY,a8⟩:=hA.ex
 have bq:=Paired.length a8
 have a9:=aB.trans s5
 have av:=s4.trans s5
 have aV:=s5 _ _ h4
 exists _,rfl,p,C,a3,fs,_,rfl,av _ _ hF.hp,T.cl,T.nB,hF.fB,_,rfl,g,_,rfl,.inl aY,lb,(bns B).map V.str,_,rfl,rfl,Qqm Om,Qb (av _ _ hF.hB),fun l ts H6 hl s6 ac X hE=>?_
 have ey:ba.length=(wks B).length:=Om
 rw[jX]at X
 rw[ey]at hE
 have al:=hA.same s6
 obtain⟨aX,aS,aR⟩:=al.ex
 have a1:aX.length=(wks B).length:=by have:=Paired.length aR;lia
 exists _,rfl,g,_,rfl,.inl aS,_,rfl,l,_,rfl,.inl (Qb ac),_,_,rfl,rfl,?_
 dsimp only
 rw[a1,jX,X,<-Int.natCast_add]
 have af:=ar.same (av.trans s6)
 have aG:=a9.trans s6
 have au:=s6 _ _ aV
 have ai:∀{i:Nat} {x:V},(ts.map V.ref)[i]?=some x->∃t b,x=.ref t/\ts[i]?=some t/\(bns B)[i]?=some b/\b∈bns B:=fun{i x} ex=>by
  rw[yZ]at ex
  obtain⟨t,et,e⟩:=jZe.mp ex
  have hi:=(jK.mp et).1
  exists t,(bns B)[i]'Om,e.symm,et,gE Om,yQb _
 let aO:Nat->St->Hp->Prop:=fun i σ H7=>∃u8 u9:Option V,σ=[some (.ref d),some (.str I),some (.ref p),some (.ref S),some (.str m),some (.ref g),some (.ref l),some (.int (((wks B).length+(bns B).length:Nat):Int)),u8,u9,none]/\Wr n B q i/\Same H6 H7
 exists _,rfl,l,rfl,⟨_,Qb ac⟩,Yx (K:=K) (a:=l) (xs:=ts.map V.ref) aO ⟨none,none,rfl,fun j b hj=>Y21 hj (kQd _),Same.refl _⟩ (fun i σ H7 _ h=>?_) ?_ ?_
 .obtain⟨u8,u9,rfl,hb,O⟩:=h
  exact Qb (O _ _ ac)
 .rintro i x σ H7 ex ⟨u8,u9,rfl,hb,O⟩
  obtain⟨t,b,rfl,et,eb,ap⟩:=ai ex
  have hi:=(jK.mp eb).1
  have ht:=O _ _ (Qko hE et eb)
  rw[<-Int.natCast_add]at ht
  have Z:=aG.trans O
  exists t,_,rfl,Xb ht,rfl,_,_,rfl,_,_,rfl,rfl,?_
  have aH:(¬∃ab,q[(wks B).length+i]?=some ab/\IsBR n b ab)->∀H8,Same H7 H8->RE CX H8 (((wks B).length+i:Nat):Int) E:=fun aj H8 L=>(SK.b2 R i b hS eb hb aj).same (Z.trans L)
  exists _,rfl,_,rfl,S,_,rfl,.inl (Qb (O _ _ au)),_,_,rfl,rfl,_,rfl,ite2 (fun N=>?_) (fun N=>?_)
  .refine iteT ⟨_,rfl,_,rfl,(aH (fun am=>?_) H7 (Same.refl _)).raise (Same.refl _)⟩
   obtain⟨ab,er,_⟩:=am
   have h9:=(jK.mp er).1
   have Y:((((q.map V.str).length:Nat)):Int)<=(((wks B).length+i:Nat):Int):=kZ N
   rw[jX]at Y
   lia
  have U:(wks B).length+i<q.length:=by
   rcases Nat.lt_or_ge ((wks B).length+i) q.length with h | h
   .exact h
   .exact Y21 (yX (show((((q.map V.str).length:Nat)):Int)<=(((wks B).length+i:Nat):Int)by rw[jX];lia)) N
  have aL:atI (q.map V.str) (((wks B).length+i:Nat):Int)=some (.str (q[(wks B).length+i])):=Jy (by rw[yZ,gE U];rfl)
  exists _,rfl,_,rfl,_,rfl,_,rfl,S,_,_,_,rfl,rfl,Qb (O _ _ au),aL,p,n,B,b,_,rfl,af.same O,bk,(Qaj bk ap).2.1,pL _ (yQb _),fun c H8 L hc=>?_
  exists c,rfl,?_
  cases c with
  |false=>
   refine iteT ⟨_,rfl,_,rfl,(aH (fun am=>?_) H8 L).raise (Same.refl _)⟩
   obtain⟨ab,er,h9⟩:=am
   rw[gE U]at er
   rw[<-Y5 er]at h9
   exact yY (hc.mpr h9)
  |true=>
   refine iteF ⟨_,_,rfl,fun j b' hj W=>?_,O.trans L⟩
   by_cases an:j<i
   .exact hb j b' an W
   .have:j=i:=Om
    subst this
    rw[eb]at W
    cases W
    exists _,gE U,hc.mp rfl
 rintro σ H7 ⟨u8,u9,rfl,hb,O⟩
 rw[jX,X]at hb
 have Z:=aG.trans O
 have az:=O _ _ au
 exists _,rfl,S,_,rfl,.inl (Qb az),_,rfl,_,_,rfl,rfl,_,rfl,ite2 (fun N=>?_) (fun N=>?_)
 .refine iteT ⟨_,rfl,_,rfl,((SK.b3 R hS hb (.inl ?_)).same Z).raise (Same.refl _)⟩
  have Y:(((wks B).length+(bns B).length:Nat):Int)<((((q.map V.str).length:Nat)):Int):=kZ N
  rw[jX]at Y
  lia
 have aA:q.length<=(wks B).length+(bns B).length:=by
  rcases Nat.lt_or_ge ((wks B).length+(bns B).length) q.length with h | h
  .exact Y21 (yX (show(((wks B).length+(bns B).length:Nat):Int)<((((q.map V.str).length:Nat)):Int)by rw[jX];lia)) N
  .exact h
 exists _,rfl,rfl,_,rfl,ite2 (fun c2=>?_) (fun c2=>?_)
 .refine⟨_,rfl,_,rfl,((SK.b3 R hS hb (.inr fun e=>?_)).same Z).raise (Same.refl _)⟩
  exact nd_t c2 (by rw[e])
 have er:m="":=V.str.inj (nd_f c2)
 have aq:q.length=(wks B).length+(bns B).length:=by
  refine Nat.le_antisymm aA ?_
  by_cases h0:(bns B).length=0
  .have h1:=congrArg List.length hS.2.2
   rw[jX,zZ]at h1
   lia
  .obtain⟨ab,e1,_⟩:=hb ((bns B).length-1) _ Om (gE Om)
   have:=(jK.mp e1).1
   lia
 clear N c2 aA
 have ay:=O _ _ ac
 have aJ:∀c∈R,∃l k,BR.way c.1 c.2.1 l k∈B:=fun c hc=>let ⟨l,k,h1,_⟩:=hS.2.1 c hc;⟨l,k,h1⟩
 let aD:Nat->St->Hp->Prop:=fun i σ H8=>∃u8 u9:Option V,σ=[some (.ref d),some (.str I),some (.ref p),some (.ref S),some (.str m),some (.ref g),some (.ref l),some (.int (((wks B).length+(bns B).length:Nat):Int)),u8,u9,none]/\Qce n B q R i/\Same H7 H8
 exists _,rfl,l,rfl,⟨_,Qb ay⟩,Yx (K:=K) (a:=l) (xs:=ts.map V.ref) aD ⟨_,_,rfl,fun j b hj=>Y21 hj (kQd _),Same.refl _⟩ (fun i σ H8 _ h=>?_) ?_ ?_
 .obtain⟨u8,u9,rfl,hq,L⟩:=h
  exact Qb (L _ _ ay)
 .rintro i x σ H8 ex ⟨u8,u9,rfl,hq,L⟩
  obtain⟨t,b,rfl,et,eb,ap⟩:=ai ex
  have hi:=(jK.mp eb).1
  have ht:=(O.trans L) _ _ (Qko hE et eb)
  rw[<-Int.natCast_add]at ht
  have ae:=Z.trans L
  exists t,_,rfl,Xb ht,rfl,_,_,rfl,_,_,rfl,rfl,?_
  have U:(wks B).length+i<q.length:=Om
  have aL:atI (q.map V.str) (((wks B).length+i:Nat):Int)=some (.str (q[(wks B).length+i])):=Jy (by rw[yZ,gE U];rfl)
  exists _,rfl,_,rfl,S,_,_,_,rfl,rfl,Qb (L _ _ az),aL,_,rfl,_,rfl,_,rfl,p,g,n,B,b,R,rfl,af.same (O.trans L),bk,al.same (O.trans L),aJ,Om,(Qaj bk ap).2.1,fun H9 s9=>?_
  exists rfl,_,rfl,ite2 (fun N=>?_) (fun N=>?_)
  .refine⟨_,rfl,_,rfl,((SK.b4 R i b hS hb aq er eb hq ?_).same (ae.trans s9)).raise (Same.refl _)⟩
   rw[gE U]
   intro e
   exact nd_t N (by rw[Y5 e];rfl)
  .have e9:q[(wks B).length+i]=brC n B R b:=V.str.inj (nd_f N)
   exists _,_,rfl,fun j b' hj W=>?_,L.trans s9
   by_cases an:j<i
   .exact hq j b' an W
   .have:j=i:=Om
    subst this
    rw[eb]at W
    cases W
    rw[gE U,e9]
 rintro σ H8 ⟨u8,u9,rfl,hq,L⟩
 rw[jX,X]at hq
 have ae:=Z.trans L
 have aZ:=al.same (O.trans L)
 obtain⟨vs,aP,aT⟩:=aZ.ex
 obtain⟨zs,e1,e2,aW⟩:=Qkj aT
 subst e1
 have lz:zs.length<=400:=by have:=congrArg List.length e2;rw[jX]at this;lia
 exists _,rfl,g,rfl,⟨_,aP⟩,fun D hD=>?_
 refine Qij (fun H v (c:Ch)=>∃t u,v=.ref t/\t≠D/\u≠D/\H t=some (.tup [.str c.1,.ref u])/\H u=some (.tup [.str c.2.1,.int c.2.2])) (fun z:Addr×Ch=>z.2) rfl (Ke (val:=fun z:Addr×Ch=>V.ref z.1) aP) Om hD (fun _ sx h=>by obtain⟨t,u,h1,h2,h3,h4,h5⟩:=h;exists t,u,h1,h2,h3,sx _ _ h4,sx _ _ h5) (fun h=>by obtain⟨t,u,h1,h2,h3,h4,h5⟩:=h;exists t,u,h1,h2,h3,by rw[Qj h2];exact h4,by rw[Qj h3];exact h5) (fun z a4 H9 s9 aE P h=>?_) fun H9 ys s9 h9 hp=>?_
 .have ax:=s9.tup (aW z a4)
  exists _,rfl,z.1,_,_,_,rfl,rfl,ax,rfl,_,rfl,_,rfl,z.1,_,rfl,ax,fun hn=>Y21 hn.1 (by show ¬(HT.sIx 3 0 (some 1)=0);decide),fun u hu=>?_
  have ec:cutV [V.str z.2.1,V.str z.2.2.1,V.int z.2.2.2] (some 1) none=[V.str z.2.2.1,V.int z.2.2.2]:=cut1 (α:=V) _ _
  rw[ec]
  have aN:=Qd hu (.tup [V.str z.2.2.1,V.int z.2.2.2])
  have Y:upd H9 u (.tup [V.str z.2.2.1,V.int z.2.2.2]) u=some (.tup [V.str z.2.2.1,V.int z.2.2.2]):=Qc
  have uD:u≠D:=fun e=>aE (by rw[<-e];exact hu)
  have ag:upd H9 u (.tup [V.str z.2.2.1,V.int z.2.2.2]) D≠none:=by rw[Qj (Ne.symm uD)];exact aE
  generalize upd H9 u (.tup [V.str z.2.2.1,V.int z.2.2.2])=H10 at aN Y ag⊢
  exists Z1 2,fun t ht=>h (.ref t) _ (aN.trans (Qd ht _)) ⟨t,u,rfl,fun e=>ag (by rw[<-e];exact ht),uD,Qc,Qd ht _ _ _ Y⟩
 rw[<-e2]at hp
 obtain⟨ps,a7,aI⟩:=Qmg (K:=K) (Paired.mapP hp fun v c ⟨t,u,h1,_,_,h4,h5⟩=>⟨t,u,h1,Xb h4,Xb h5⟩)
 have hk:ps.map (·.1)=(wks B).map inr:=by rw[<-hS.1,kQa];exact Qmh aI
 have nd:(ps.map (·.1)).Nodup:=by rw[hk];exact Qqn (Qka bk.wb)
 have bo:ps.length=(wks B).length:=by have:=congrArg List.length hk;rw[jX,jX]at this;exact this
 exists D,ys,ps,rfl,Qb h9,a7,Om,fun Pd aM=>?_
 have a6:Xi ps=ps:=by have:=Qqk nd ps.length (jJ _);rw[yW]at this;exact this
 rw[a6]
 have aw:=Qd aM (.dK ps)
 have aK:upd H9 Pd (.dK ps) Pd=some (.dK ps):=Qc
 generalize upd H9 Pd (.dK ps)=H11 at aw aK⊢
 have ah:PlanAt K H11 Pd R:=⟨ps,aK,Paired.mapP aI fun x c ⟨h1,u,h2,h3⟩=>⟨h1,u,h2,aw.tup h3⟩⟩
 have ad:=(ae.trans s9).trans aw
 exists _,rfl,_,rfl,d,Pd,n,us,B,R,rfl,ad _ _ hd,hB.same ad,bk,ah,Qgu hS,fun v aU ak hD=>?_
 exists rfl,_,rfl,ite2 (fun N=>?_) (fun N=>?_)
 .refine⟨_,rfl,_,rfl,((SK.b5 R hS hb aq er hq fun e=>?_).same (ad.trans ak)).raise (Same.refl _)⟩
  rw[e]at hD
  have hD:v=.non:=hD
  exact nd_t N hD
 .have hv:v=.non:=nd_f N
  exists _,rfl,SK.ok R hS hb aq er hq ?_ Pd aU (ad.trans ak) ((ae.trans s9).free aM) (PlanAt.same ah ak)
  cases e:dueF n B R with
  |none=>rfl
  |some ks=>
   rw[e]at hD
   obtain⟨tt,e5,_⟩:=hD
   rw[hv]at e5
   cases e5
abbrev Qqp:Stmt:=top 45
def Qqq(B:List BR):BR->Option Str
 |.work w=>if (B.filter (Zk w)).isEmpty=true then some w else none
 |_=>none
def lack(B:List BR):List Str:=B.filterMap (Qqq B)
def keepR(lk:List Str)(r:BR):Bool:=r.own.all fun w=>!decide (w∈lk)
def Qmi(B:List BR):List BR:=B.filter (keepR (lack B))
theorem Qqr(h:r.word≠"work"):Qqq B r=none:=by
 cases r with
 |work w=>exact Y21 rfl h
 |_=>rfl
theorem lack_mem{w:Str}:w∈lack B↔BR.work w∈B/\B.filter (Zk w)=[]:=by
 unfold lack
 rw[xX]
 constructor
 .rintro⟨r,d,e⟩
  cases r with
  |work w'=>
   have a:(if (B.filter (Zk w')).isEmpty=true then some w' else none)=some w:=e
   by_cases c:(B.filter (Zk w')).isEmpty=true
   .rw[Y22 c]at a
    cases a
    exists d,jKe.mp c
   .rw[Y20 c]at a;cases a
  |_=>cases e
 .rintro⟨f,b⟩
  exists _,f,?_
  show(if (B.filter (Zk w)).isEmpty=true then some w else none)=some w
  rw[Y22 (by rw[b];rfl)]
theorem keep_iff{lk:List Str}:keepR lk r=true↔∀w∈r.own,w∉lk:=by
 unfold keepR
 rw[jYc]
 exists fun h w a=>by have:=h w a;simpa using this,fun h w a=>by have:=h w a;simpa using this
theorem Qyz(h:BookOk n B):BookOk n (Qmi B):=by
 exists h.n1,h.n12,⟨fun r a=>h.wb.ok r (zV.mp a).1,h.wb.nd.sublist List.filter_sublist,fun r a w b=>?_,wZ (jYa _ _) h.wb.len,h.wb.few.elim fun f q=>⟨f,q.1,fun r a=>q.2 r (zV.mp a).1⟩⟩,?_,fun r a=>h.gn r (zV.mp a).1
 .obtain⟨g,d⟩:=zV.mp a
  refine zV.mpr ⟨h.wb.ref r g w b,keep_iff.mpr fun x i=>?_⟩
  rw[jV.mp i]
  exact keep_iff.mp d w b
 .have c:=h.hd
  cases B with
  |nil=>cases c
  |cons r B=>
   have e:r=.days n:=Y5 c
   unfold Qmi
   rw[jQe (by rw[e];rfl),e]
   rfl
theorem Qud{w:Str}(h:BR.work w∈Qmi B):∃v l c,BR.way w v l c∈Qmi B:=by
 obtain⟨j,d⟩:=zV.mp h
 have a:=keep_iff.mp d w jY
 have g:B.filter (Zk w)≠[]:=fun e=>a (lack_mem.mpr ⟨j,e⟩)
 obtain⟨r,f⟩:=List.exists_mem_of_ne_nil _ g
 obtain⟨k,b⟩:=zV.mp f
 cases r with
 |way w' v l c=>
  have e:w'=w:=kZ b
  subst e
  exists v,l,c,zV.mpr ⟨k,keep_iff.mpr fun x i=>by rw[jV.mp i];exact a⟩
 |_=>cases b
theorem own6(r:BR):(inV (.str r.word) [.str "work",.str "way",.str "uses",.str "takes",.str "gives",.str "late"]=true/\cutV (r.cells.map kV) (some 1) (some 2)=r.own.map V.str/\r.word≠"after")\/(inV (.str r.word) [.str "work",.str "way",.str "uses",.str "takes",.str "gives",.str "late"]=false/\r.word="after"/\cutV (r.cells.map kV) (some 1) (some 3)=r.own.map V.str)\/(inV (.str r.word) [.str "work",.str "way",.str "uses",.str "takes",.str "gives",.str "late"]=false/\r.word≠"after"/\r.own=[]):=by
 have e:∀(a b:V) (r:List V),cutV (a::b::r) (some 1) (some 2)=[b]:=fun a b r=>by
  unfold cutV
  rw[show(1:Int)=((1:Nat):Int)from rfl,show(2:Int)=((2:Nat):Int)from rfl,HT.sIx_nat,HT.sIx_nat,yQ,yQ,jQb Om,jQb Om]
  rfl
 have h:∀(a b c:V) (r:List V),cutV (a::b::c::r) (some 1) (some 3)=[b,c]:=fun a b c r=>by
  unfold cutV
  rw[show(1:Int)=((1:Nat):Int)from rfl,show(3:Int)=((3:Nat):Int)from rfl,HT.sIx_nat,HT.sIx_nat,yQ,yQ,yQ,jQb Om,jQb Om]
  rfl
 cases r with
 |days n=>exact .inr (.inr ⟨(by show inV (.str "days") _=false;decide +kernel),(Sn "days" "after"),rfl⟩)
 |bench b r=>exact .inr (.inr ⟨(by show inV (.str "bench") _=false;decide +kernel),(Sn "bench" "after"),rfl⟩)
 |shut b f t=>exact .inr (.inr ⟨(by show inV (.str "shut") _=false;decide +kernel),(Sn "shut" "after"),rfl⟩)
 |store b m f=>exact .inr (.inr ⟨(by show inV (.str "store") _=false;decide +kernel),(Sn "store" "after"),rfl⟩)
 |work w=>exact .inl ⟨(by show inV (.str "work") _=true;decide +kernel),e _ _ _,(Sn "work" "after")⟩
 |way w v l c=>exact .inl ⟨(by show inV (.str "way") _=true;decide +kernel),e _ _ _,(Sn "way" "after")⟩
 |use k w v t m=>match k with
  |0=>exact .inl ⟨(by show inV (.str "uses") _=true;decide +kernel),e _ _ _,(Sn "uses" "after")⟩
  |1=>exact .inl ⟨(by show inV (.str "takes") _=true;decide +kernel),e _ _ _,(Sn "takes" "after")⟩
  |2=>exact .inl ⟨(by show inV (.str "gives") _=true;decide +kernel),e _ _ _,(Sn "gives" "after")⟩
 |after w x g=>exact .inr (.inl ⟨(by show inV (.str "after") _=false;decide +kernel),rfl,h _ _ _ _⟩)
 |late w d c=>exact .inl ⟨(by show inV (.str "late") _=true;decide +kernel),e _ _ _,(Sn "late" "after")⟩
theorem Qeu(x:Str)(l:List Str):inV (.str x) (l.map V.str)=decide (x∈l):=by
 rw[jJc,decide_eq_true_iff]
 unfold inV
 rw[jXe]
 constructor
 .rintro⟨v,a,e⟩
  obtain⟨y,b,rfl⟩:=zK.mp a
  have c:(y == x)=true:=e
  rw[<-eq_of_beq c];exact b
 .intro h
  exists .str x,zK.mpr ⟨x,h,rfl⟩,(by show(x == x)=true;exact beq_self_eq_true x)
theorem Qqs(l:List Str):(l.map V.str).all Vm=true:=by
 rw[jYc]
 intro v a
 obtain⟨y,_,rfl⟩:=zK.mp a
 rfl
inductive Qvq(k0:Fg)(vs:List V)(H:Hp)(Q:VK)(E:XK):Prop|mk(d:Addr)(us:List V)(B:List BR)(_:vs=[.ref d])(_:H d=some (.lst us))(_:RowsB H us B)(_:B.length<=400)(_:∀(g:Addr) (ys:List V) (H':Hp),Same H H'->H' g=some (.lst ys)->RowsB H' ys (Qmi B)->Q (.ref g) H'):Qvq k0 vs H Q E
theorem scDone:FnScope ["_law_book_here","_law_lacking","_law_found","_law_row","_law_names"] ["_law_book_here"] (Qh Qqp):=Sc
theorem okDone(F:Fn K mg "_law_all_done" Qqp)(M:Mg mg)(p:Cal P w K mg base 1 "_law_ways" ["_law_book_here","_law_work"] (Qjy K)):Cal P w K mg base 2 "_law_all_done" ["_law_book_here"] (Qvq K):=by
 refine Xv F scDone (a:=fun f aq A aj s H vs Q E L h=>?_)
 obtain⟨d,us,B,rfl,hd,hB,bl,q⟩:=h
 have ad:=Z6 6 L.un
 refine⟨_,(Qg (Z4 1 scDone.nd (Yh ["_law_row","_law_book_here"] [none,some 0] rfl (Xd (pv 0)) (fun _ _ _=>(Z3 0 (show(["_law_row","_law_book_here"]:List Str).Nodup by decide +kernel))) (fun _ _ _=>(Zh (PW.pt (Zd (Ql Ye (Qs (Xw (K:=K) rfl) (pv 0) Qe) Qq (Qp _)) (Ys (Ql (Qdx (K:=K) (n:=6) rfl ad) (Xk p (L.mono Dc) (Qa (pv 1) (Qa (Qs (Xw (K:=K) rfl) (pv 0) Qe) Qf))) (Xg Qf) (Qp _))))))) (fun _ _ _=>(Qs (Xw (K:=K) rfl) (pv 0) Qe))))
  (Qg (Z4 2 scDone.nd (Xg Qf))
  (Qg (Yb Y33 rfl (Xd (pv 0)) (Z3 3 scDone.nd) (Qg (Z4 4 scDone.nd (Xg Qf))
  (Qg (Xp (Ql Vo (Qs Qn (pv 3) Qe) (Xg (Qa Qq (Qa Qq (Qa Qq (Qa Qq (Qa Qq (Qa Qq Qf))))))) rfl) (Qi (Z4 4 scDone.nd (Xc Jh (pv 3) (Xe Qe) (Xe Qe)))) Qv)
  (Qg (Xp (Ql Ye (Qs Qn (pv 3) Qe) Qq (Qp _)) (Qi (Z4 4 scDone.nd (Xc Jh (pv 3) (Xe Qe) (Xe Qe)))) Qv)
  (Qi (Xp (Ql (Qdx (K:=K) (n:=6) rfl ad) (Yh ["_law_name_here","_law_lacking"] [none,some 1] rfl (Xd (pv 4)) (fun _ _ _=>(Z3 0 (show(["_law_name_here","_law_lacking"]:List Str).Nodup by decide +kernel))) (fun _ _ _=>(Zh (Ql (Qll (K:=K) rfl) (pv 0) (pv 1) rfl))) (fun _ _ _=>(pv 0))) (Xg Qf) (Qp _)) (Qi (Yj (Yt Y1 Y2 Y3 Xq (pv 2) (Qa (pv 3) Qf)))) Qv))))))
  (Qi (Qx (pv 2)))))),?_⟩
 refine Km ?_;intros
 exists"z"
 have lu:=hB.length
 exists _,rfl,d,rfl,⟨_,Qb hd⟩,fun D hD=>Qab (f:=Qqq B) (fun _ v x=>v=.str x) (fun _ e=>e) (fun _ e=>e) rfl hd hB Om hD (fun r R H1 hm s1 L P1 P2 k1 k2=>?_) (fun U H1 s1 hE hi=>?_)
 .refine⟨_,rfl,R,_,_,_,rfl,rfl,Qb L,Yl r,rfl,_,rfl,ite2 (fun y=>?_) (fun y=>iteF (k2 (Qqr fun e=>y (by rw[e];exact yesS _)) _ (Same.refl _)))⟩
  obtain⟨w,rfl⟩:=Kc (eqS y)
  have a1:atI ((BR.work w).cells.map kV) 1=some (.str w):=rfl
  exists _,rfl,_,rfl,R,_,_,_,rfl,rfl,Qb L,a1,d,w,us,B,rfl,s1 _ _ hd,hB.same s1,Om,fun D3 ap k S f3 h3 g=>?_
  exists Z1 0,fun p4 am=>?_
  have s4:=Qd am (.lst [])
  have ab:=S.trans s4
  have l3:=g.length
  exists D3,p4,ap,rfl,rfl,Qb (s4 _ _ h3),Qb Qc,_,rfl,ite2 (fun y2=>?_) (fun y2=>k2 (Y20 fun e=>y2 (jKe.mpr (jJa (by rw[l3,jKe.mp e];rfl)))) _ ab)
  exists _,rfl,R,_,_,_,rfl,rfl,Qb (ab _ _ L),a1,k1 _ _ w (Y22 (jKe.mpr (jJa (by rw[<-l3,jKe.mp y2];rfl)))) ab rfl
 .have ey:=Zb hi
  have hL:H1 D=some (.lst ((lack B).map V.str)):=by rw[hE,ey];rfl
  exists Z1 0,fun l G=>?_
  have FH:H l=none:=by
   cases e5:H l with
   |none=>rfl
   |some o=>rw[s1 _ _ e5]at G;cases G
  have FD:l≠D:=fun e=>by rw[e,hE]at G;cases G
  have s2:=Qd G (.lst [])
  have hF:upd H1 l (.lst []) l=some (.lst []):=Qc
  generalize upd H1 l (.lst [])=H2 at s2 hF⊢
  let af:Nat->St->Hp->Prop:=fun i σ k=>∃(v3 v4:Option V) (U:List V),σ=[some (.ref d),some (.ref D),some (.ref l),v3,v4]/\k l=some (.lst U)/\RowsB k U ((B.take i).filter (keepR (lack B)))/\U.length<=i/\k D=some (.lst ((lack B).map V.str))/\Same H k
  exists _,rfl,d,rfl,⟨_,Qb (s2 _ _ (s1 _ _ hd))⟩,Yx (K:=K) (a:=d) (xs:=us) af ⟨none,none,[],rfl,hF,.nil,jJ _,s2 _ _ hL,s1.trans s2⟩ (fun i σ k _ h=>?_) ?_ ?_
  .obtain⟨v3,v4,U,rfl,u,g,aa,I,S⟩:=h
   exact S.seq (Qb hd)
  .rintro i x σ k e1 ⟨v3,v4,U,rfl,u,g,aa,I,S⟩
   obtain⟨r,R,er,rfl,L⟩:=(hB.same S).get e1
   exists Z1 0,fun P4 ao=>?_
   have s4:=Qd ao (.lst [])
   have hP:upd k P4 (.lst []) P4=some (.lst []):=Qc
   generalize upd k P4 (.lst [])=H4 at s4 hP⊢
   refine Qjx (fun N H'=>∃P5:Addr,N=[some (.ref d),some (.ref D),some (.ref l),some (.ref R),some (.ref P5)]/\Same k H'/\H' P5=some (.lst (if r.word="after" then[]else r.own.map V.str))) ?_ fun REST=>?_
   .rintro N H5 ⟨P5,rfl,s5,W⟩
    have ae:=s5 _ _ L
    dsimp only
    refine Qhz (fun N H'=>∃P5:Addr,N=[some (.ref d),some (.ref D),some (.ref l),some (.ref R),some (.ref P5)]/\Same k H'/\H' P5=some (.lst (r.own.map V.str))) ?_ fun J=>?_
    .rintro N H6 ⟨P6,rfl,s6,T⟩
     exists _,rfl,P6,rfl,⟨_,Qb T⟩,fun D7 ai=>?_
     let ag:Nat->St->List V->Hp->Prop:=fun m τ O Z=>∃v:Option V,τ=[v,some (.ref D)]/\O=((r.own.take m).filter fun w=>decide (w∈lack B)).map V.str/\O.length<=m/\Z D7=some (.lst O)/\Same H6 Z
     refine Zi (n:=r.own.length) ag ?_ (fun m τ O Z hm h=>?_) (fun m τ O Z hm h=>?_) (fun τ O Z h=>?_) ?_ ?_
     .exact⟨none,rfl,rfl,jJ _,Qc,Qd ai _⟩
     .obtain⟨v,rfl,X,t,j,C⟩:=h
      have:r.own.length<=2:=by cases r<;>simp[BR.own]
      exists j,Om
     .obtain⟨v,rfl,X,t,j,C⟩:=h
      exists _,.str r.own[m],Qb (C _ _ T),by rw[yZ,gE hm];rfl
     .obtain⟨v,rfl,X,t,j,C⟩:=h
      exists _,Qb (C _ _ T),by rw[jX];exact jJ _
     .rintro m τ O Z x7 H8 hm ⟨v,rfl,X,t,j,C⟩ ⟨rfl,e7⟩
      have ex:=e7 _ (Qb (C _ _ T))
      rw[yZ,gE hm]at ex
      cases ex
      have eo:r.own[m]?=some r.own[m]:=gE hm
      exists _,rfl,_,rfl,D,_,rfl,.inl (Qb (C _ _ (s6 _ _ I))),rfl,Qqs _,_,rfl,ite2 (fun y=>?_) (fun y=>?_)
      .have y':decide (r.own[m]∈lack B)=true:=by rw[<-Qeu];exact y
       exists _,rfl,j,_,rfl,?_,by rw[jZ];exact wW t,Qc,fun b o e=>?_
       .rw[filter_next _ eo,Y22 y',yK,X];rfl
       .rw[Qj (Qm e ai)];exact C _ _ e
      .have y':¬decide (r.own[m]∈lack B)=true:=fun z=>y (by show inV (.str r.own[m]) ((lack B).map V.str)=true;rw[Qeu];exact z)
       exists _,rfl,?_,Om,j,C
       rw[filter_next _ eo,Y20 y',xV]
       exact X
     .rintro τ O Z ⟨v,rfl,X,t,j,C⟩
      rw[yW]at X
      exists Z1 0,fun p8 ak=>?_
      have s8:=Qd ak (.lst [])
      have c:=s6.trans (C.trans s8)
      have al:=c _ _ L
      have kp:keepR (lack B) r=O.isEmpty:=by
       rw[jJc,keep_iff,jKe,X,yZe,List.filter_eq_nil_iff]
       exists fun h w hw=>by simpa using h w hw,fun h w hw=>by simpa using h w hw
      exists D7,p8,O,rfl,rfl,Qb (s8 _ _ j),Qb Qc,_,rfl,ite2 (fun y=>?_) (fun y=>?_)
      .have ac:=c _ _ u
       exists _,rfl,.inl ⟨rfl,_,Qb ac⟩,_,rfl,l,_,_,rfl,rfl,ac,by have:=hB.length;have h9:=(jK.mp er).1;lia,_,_,_,rfl,Qc,?_,by rw[jZ];exact wW aa,?_,fun b o e=>?_
       .rw[filter_next _ er,Y22 (by rw[kp];exact y)]
        exact((g.same c).snoc al).updL ac g.noRow
       .rw[Qj FD.symm];exact c _ _ I
       .rw[Qj (Qm e FH)];exact(S.trans c) _ _ e
      .refine⟨_,_,U,rfl,c _ _ u,?_,Om,c _ _ I,S.trans c⟩
       rw[filter_next _ er,Y20 (by rw[kp];exact y),xV]
       exact g.same c
    .refine⟨_,rfl,R,_,_,_,rfl,rfl,Qb ae,Yl r,rfl,_,rfl,ite2 (fun y=>?_) (fun y=>?_)⟩
     .have ew:=eqS y
      rcases own6 r with⟨_,_,h⟩ | ⟨_,_,h⟩ | ⟨_,h,_⟩
      .exact Y21 ew h
      .refine⟨_,rfl,_,rfl,_,rfl,R,_,rfl,Qb ae,fun p6 Y=>?_⟩
       rw[h]
       exact J _ _ ⟨p6,rfl,s5.trans (Qd Y _),Qc⟩
      .exact Y21 ew h
     .refine J _ _ ⟨P5,rfl,s5,?_⟩
      rw[W,Y20 (fun e=>y (by rw[e];exact yesS _))]
   .have an:=s4 _ _ L
    exists _,rfl,R,_,_,_,rfl,rfl,Qb an,Yl r,Z1 6,fun p5 ah=>?_
    have s5:=s4.trans (Qd ah (.lst [.str "work",.str "way",.str "uses",.str "takes",.str "gives",.str "late"]))
    exists p5,_,rfl,.inl (Qb Qc),rfl,rfl,_,rfl,ite2 (fun y=>?_) (fun y=>?_)
    .rcases own6 r with⟨_,h,h'⟩ | ⟨h,_,_⟩ | ⟨h,_,_⟩
     .refine⟨_,rfl,_,rfl,_,rfl,R,_,rfl,Qb (s5 _ _ L),fun p6 Y=>?_⟩
      rw[h]
      exact REST _ _ ⟨p6,rfl,s5.trans (Qd Y _),by rw[Y20 h'];exact Qc⟩
     .exact Y21 (h.symm.trans y) Dc
     .exact Y21 (h.symm.trans y) Dc
    .refine REST _ _ ⟨P4,rfl,s5,?_⟩
     have W:=(Qd ah (.lst [.str "work",.str "way",.str "uses",.str "takes",.str "gives",.str "late"])) _ _ hP
     rcases own6 r with⟨h,_,_⟩ | ⟨_,h,_⟩ | ⟨_,h,h'⟩
     .exact Y21 h y
     .rw[Y22 h];exact W
     .rw[Y20 h,h'];exact W
  .rintro σ k ⟨v3,v4,U,rfl,u,g,aa,I,S⟩
   rw[lu,yW]at g
   exists _,rfl,q l U k S u g
end
end Nb
namespace L2
open PySem PySem.Spec PyProof.Rows
theorem filter_next{α β:Type}{xs:List α}{x:α}(h:xs[i]?=some x)(a:α->Bool):(xs.take (i+1)).filter a=(xs.take i).filter a++(if a x=true then[x]else[]):=by
 rw[Wa h,jKa]
 congr 1
 by_cases c:a x=true
 .rw[Y22 c,jQe c];rfl
 .rw[Y20 c,wK c];rfl
theorem Qqt{α β:Type}{xs:List α}{val:α->V}{D:Addr}{Q:Addr->Hp->Prop}(g:β->V)(f:α->β)(d:α->Bool)(p:τ0=none::cs)(q:Walk J H xs val)(C:xs.length<sizeLine)(r:H D=none)
  (u:∀x∈xs,∀H1,Same H H1->∀P:Bool->Hp->Prop,(∀H2,Same H1 H2->P (d x) H2)->tt (some (val x)::cs) H1 P)
  (A:∀x∈xs,d x=true->∀H1,Same H H1->∀P:V->Hp->Prop,(∀H2,Same H1 H2->P (g (f x)) H2)->te (some (val x)::cs) H1 P)
  (w:∀H1,Same H H1->H1 D=some (.lst (((xs.filter d).map f).map g))->Q D H1) :
  LcW J D τ0 H (Vl 0) tt te Q:=by
 subst p
 let l:Nat->St->List V->Hp->Prop:=fun i j e H1=>∃v:Option V,j=v::cs/\H1 D=some (.lst e)/\Same H H1/\i<=xs.length/\e=(((xs.take i).filter d).map f).map g
 refine Zi (n:=xs.length) l ?_ (fun i j e H1 k h=>?_) (fun i j e H1 k h=>?_) (fun j e H1 h=>?_) ?_ ?_
 .exact⟨none,rfl,Qc,Qd r _,wJ _,rfl⟩
 .obtain⟨v,rfl,a,b,_,rfl⟩:=h
  exists a,?_
  rw[jX,jX]
  have B:=jYa d (xs.take i)
  rw[zZ]at B
  lia
 .obtain⟨v,rfl,a,b,_,z⟩:=h
  exact q.go i H1 b k
 .obtain⟨v,rfl,a,b,_,z⟩:=h
  exact q.stop H1 b
 .rintro i j e H1 x H2 k ⟨v,rfl,a,b,_,rfl⟩ t
  obtain⟨rfl,y,o,rfl⟩:=q.yl i H1 x H2 b t k
  refine u y (kY o) _ b _ fun F m=>?_
  by_cases c:d y=true
  .rw[c]
   refine iteT ?_
   refine A y (kY o) c _ (b.trans m) _ fun E s=>⟨(m.trans s) _ _ a,_,rfl,Qc,Yp ((b.trans m).trans s) r,k,?_⟩
   rw[filter_next (β:=β) o d,Y22 c,yK,yK]
   rfl
  .rw[Bool.eq_false_iff.mpr c]
   refine iteF ⟨_,rfl,m _ _ a,b.trans m,k,?_⟩
   rw[filter_next (β:=β) o d,Y20 c,xV]
 .rintro j e H1 ⟨v,rfl,a,b,_,rfl⟩
  rw[yW]at a
  exact w H1 b a
end L2
namespace Nb
open PySem L2
abbrev sEas:Stmt:=top 46
theorem Qqu:∀{us:List V} {B:List BR},RowsB H us B->∃zs:List (Addr×BR),us=zs.map (fun z=>V.ref z.1)/\zs.map (·.2)=B/\∀z∈zs,H z.1=some (.lst (z.2.cells.map kV)):=by
 intro us B h
 unfold RowsB at h
 induction B generalizing us with
 |nil=>cases h;exists [],rfl,rfl,fun _ h=>nomatch h
 |cons r B ih=>
  cases h with
  |cons z t=>
   obtain⟨l,rfl,d⟩:=z
   obtain⟨zs,a,c,b⟩:=ih t
   exists (l,r)::zs,by rw[a];rfl,by rw[zX,c],fun z f=>?_
   rcases kK.mp f with e | e
   .rw[e];exact d
   .exact b z e
theorem Qqv{H:Hp}:∀{zs:List (Addr×BR)},(∀z∈zs,H z.1=some (.lst (z.2.cells.map kV)))->RowsB H (zs.map fun z=>V.ref z.1) (zs.map (·.2))
 |[],_=>.nil
 |z::zs,h=>.cons ⟨z.1,rfl,h z jY⟩ (Qqv fun y a=>h y (kJ _ a))
def Ez(r r':BR):Prop:=r'=r\/∃b m,r=.bench b m/\r'=.bench b 99
def Drp:BR->Prop
 |.shut _ _ _=>True
 |.use _ _ _ _ _=>True
 |.after _ _ _=>True
 |_=>False
inductive Eased:List BR->List BR->Prop
 |nil:Eased [] []
 |keep {r r' B B':_}:Ez r r'->Eased B B'->Eased (r::B) (r'::B')
 |drop {r B B':_}:Drp r->Eased B B'->Eased (r::B) B'
theorem Eased.app{A A':List BR}(h:Eased A A')(h':Eased B B'):Eased (A++B) (A'++B'):=by
 induction h with
 |nil=>exact h'
 |keep e _ ih=>exact .keep e ih
 |drop e _ ih=>exact .drop e ih
theorem Wx{p:BR->Bool}:∀{B:List BR},(∀r∈B,p r=false->Drp r)->Eased B (B.filter p)
 |[],_=>.nil
 |r::B,h=>by
  have a:=Wx (p:=p) (B:=B) fun q b=>h q (kJ _ b)
  cases e:p r with
  |true=>rw[jQe e];exact .keep (.inl rfl) a
  |false=>rw[wK (by rw[e];exact yY)];exact .drop (h r jY e) a
theorem Qcf{r':BR}(h:Ez r r'):r'.key=r.key/\r'.word=r.word/\r'.own=r.own/\r'.names=r.names:=by
 rcases h with rfl | ⟨b,m,rfl,rfl⟩
 .exact⟨rfl,rfl,rfl,rfl⟩
 .exact⟨rfl,rfl,rfl,rfl⟩
theorem Kh(h:Eased B B'){r':BR}(hr:r'∈B'):∃r∈B,Ez r r':=by
 induction h with
 |nil=>cases hr
 |@keep r q B B' e _ ih=>
  rcases kK.mp hr with rfl | hr
  .exact⟨r,jY,e⟩
  .obtain⟨x,a,ex⟩:=ih hr
   exists x,kJ _ a,ex
 |drop e _ ih=>
  obtain⟨x,a,ex⟩:=ih hr
  exists x,kJ _ a,ex
theorem Qdi(h:Eased B B')(hr:r∈B)(a:¬Drp r)(d:∀b m,r≠.bench b m):r∈B':=by
 induction h with
 |nil=>cases hr
 |@keep q q' B B' e _ ih=>
  rcases kK.mp hr with rfl | hr
  .rcases e with rfl | ⟨b,m,c,_⟩
   .exact jY
   .exact Y21 c (d b m)
  .exact kJ _ (ih hr)
 |drop e _ ih=>
  rcases kK.mp hr with rfl | hr
  .exact Y21 e a
  .exact ih hr
theorem Qgv(h:Eased B B'):wks B'=wks B:=by
 unfold wks
 induction h with
 |nil=>rfl
 |@keep q q' B B' e _ ih=>
  rw[jQf,jQf,ih,show Zu q'=Zu q by rcases e with rfl | ⟨b,m,rfl,rfl⟩<;>rfl]
 |@drop q B B' e _ ih=>
  rw[jQf,ih,show Zu q=none by cases q<;>first | rfl | exact e.elim]
theorem Qqw(h:Eased B B')(w:Str):B'.filter (Zk w)=B.filter (Zk w):=by
 induction h with
 |nil=>rfl
 |@keep q q' B B' e _ ih=>
  rcases e with rfl | ⟨b,m,rfl,rfl⟩
  .rw[kQf,kQf,ih]
  .rw[wK (show ¬Zk w (.bench b 99)=true from yY),wK (show ¬Zk w (.bench b m)=true from yY),ih]
 |@drop q B B' e _ ih=>
  rw[wK (show ¬Zk w q=true by cases q<;>first | exact yY | exact e.elim),ih]
theorem Que(h:Eased B B')(nd:B.Pairwise Apart):B'.Pairwise Apart:=by
 induction h with
 |nil=>exact .nil
 |@keep q q' B B' e hB ih=>
  obtain⟨i,f⟩:=jYb.mp nd
  refine jYb.mpr ⟨fun a g=>?_,ih f⟩
  obtain⟨d,b,c⟩:=Kh hB g
  have:=i d b
  unfold Apart at this⊢
  rw[(Qcf e).1,(Qcf e).2.1,(Qcf c).1,(Qcf c).2.1]
  exact this
 |drop e _ ih=>exact ih (jYb.mp nd).2
theorem Qgw(h:Eased B B'):B'.length<=B.length:=by
 induction h with
 |nil=>exact jJ _
 |keep e _ ih=>rw[yQ,yQ];lia
 |drop e _ ih=>rw[yQ];lia
theorem Qkp(h:Eased B B')(bk:BookOk n B):BookOk n B':=by
 exists bk.n1,bk.n12,⟨fun r a=>?_,Que h bk.wb.nd,fun r a w c=>?_,wZ (Qgw h) bk.wb.len,bk.wb.few.elim fun i q=>⟨i,q.1,fun r a w c=>?_⟩⟩,?_,fun r a=>?_
 .obtain⟨q,d,e⟩:=Kh h a
  have:=bk.wb.ok q d
  rcases e with rfl | ⟨b,m,rfl,rfl⟩
  .exact this
  .exact⟨Dc,Dc⟩
 .obtain⟨q,d,e⟩:=Kh h a
  rw[(Qcf e).2.2.1]at c
  exact Qdi h (bk.wb.ref q d w c) (fun z=>z) fun b m z=>nomatch z
 .obtain⟨x,j,e⟩:=Kh h a
  rw[(Qcf e).2.2.1]at c
  exact q.2 x j w c
 .have f:=bk.hd
  cases h with
  |nil=>cases f
  |keep e _=>
   have g:=Y5 f
   rcases e with rfl | ⟨b,m,rfl,rfl⟩
   .exact f
   .cases g
  |drop e _=>
   have g:=Y5 f
   rw[g]at e
   exact e.elim
 .obtain⟨q,d,e⟩:=Kh h a
  unfold BR.gn
  rw[(Qcf e).2.2.2]
  exact bk.gn q d
def AllW(B:List BR):Prop:=∀w∈wks B,hasW B w=true
theorem Qgx(h:Eased B B'):hasW B'=hasW B:=by
 funext w
 unfold hasW
 rw[Qqw h w]
theorem Qdj(h:Eased B B')(a:PlanFor n B pl):PlanFor n B' pl:=by
 exists by rw[Qgv h,Qgx h];exact a.keys,fun q e=>?_
 obtain⟨l,c,f,d⟩:=a.good q e
 exists l,c,Qdi h f (fun z=>z) (fun b m z=>nomatch z),d
theorem Qgy(h:Eased B B')(a:AllW B):AllW B':=by
 unfold AllW
 rw[Qgv h,Qgx h]
 exact a
theorem Quf(h:dueF n B pl=some ks):∃(a b:Str) (rest:List Key),ks=inr a::inr b::rest:=by
 unfold dueF at h
 have f:=List.mem_of_mem_head? (Option.mem_def.mpr h)
 rcases kW.mp f with h | h
 .obtain⟨r,_,c⟩:=jZc.mp h
  cases r with
  |work w=>
   have e:ks∈(if hasK pl w=true then[]else[[(inr ("work":Str):Key),inr w]]):=c
   split at e
   .exact nomatch e
   .rw[jV.mp e];exists _,_,_,rfl
  |_=>exact nomatch c
 .rcases kW.mp h with h | h
  .obtain⟨r,_,c⟩:=jZc.mp h
   cases r with
   |bench b r=>obtain⟨d,_,rfl⟩:=zK.mp c;exists _,_,_,rfl
   |_=>exact nomatch c
  .rcases kW.mp h with h | h
   .obtain⟨r,_,c⟩:=jZc.mp h
    cases r with
    |store st mo fi=>obtain⟨d,_,rfl⟩:=zK.mp c;exists _,_,_,rfl
    |_=>exact nomatch c
   .obtain⟨r,_,c⟩:=jZc.mp h
    cases r with
    |after w x g=>
     have e:ks∈(if (look pl x).2-(look pl w).2-lenB B w (look pl w).1<g then[[(inr ("after":Str):Key),inr w,inr x]]else[]):=c
     split at e
     .rw[jV.mp e];exists _,_,_,rfl
     .exact nomatch e
    |_=>exact nomatch c
theorem Qug(h:r.word=wordOf 2):∃x,atI (r.cells.map kV) 1=some (.str x):=by
 have a:=(Xx r (k:=2) Om).mp h
 cases r with
 |shut b f t=>exists b,rfl
 |use k _ _ _ _=>match k,a with
  |0,a=>exact Y21 a (by show ¬((6:Nat)=2);decide)
  |1,a=>exact Y21 a (by show ¬((7:Nat)=2);decide)
  |2,a=>exact Y21 a (by show ¬((8:Nat)=2);decide)
 |bench b _=>exists b,rfl
 |store b _ _=>exists b,rfl
 |work b=>exists b,rfl
 |way b _ _ _=>exists b,rfl
 |after b _ _=>exists b,rfl
 |late b _ _=>exists b,rfl
 |days _=>have c:(0:Nat)=2:=a;lia
theorem Qqx{k:Nat}(c:k=6\/k=7\/k=8)(h:r.word=wordOf k):∃x,atI (r.cells.map kV) 3=some (.str x):=by
 have a:=(Xx r (k:=k) Om).mp h
 cases r with
 |use k _ _ t _=>exists t,rfl
 |days _=>have b:(0:Nat)=k:=a;lia
 |bench _ _=>have b:(1:Nat)=k:=a;lia
 |shut _ _ _=>have b:(2:Nat)=k:=a;lia
 |store _ _ _=>have b:(3:Nat)=k:=a;lia
 |work _=>have b:(4:Nat)=k:=a;lia
 |way _ _ _ _=>have b:(5:Nat)=k:=a;lia
 |after _ _ _=>have b:(9:Nat)=k:=a;lia
 |late _ _ _=>have b:(10:Nat)=k:=a;lia
theorem Qza(h:¬(!inV (.str r.word) [.str "takes",.str "gives"])=true):∃k,(k=7\/k=8)/\r.word=wordOf k:=by
 have a:inV (.str r.word) ((["takes","gives"]:List Str).map V.str)=true:=by
  cases e:inV (.str r.word) [.str "takes",.str "gives"]with
  |true=>exact e
  |false=>rw[e]at h;exact Y21 rfl h
 rw[Qeu]at a
 have b:r.word∈(["takes","gives"]:List Str):=kZ a
 rcases kK.mp b with e | e
 .exact⟨7,.inl rfl,e⟩
 .exact⟨8,.inr rfl,jV.mp e⟩
theorem Qqy{t:TT}{A B:TS}(Z:Hp->Prop)(a:∀H',Z H'->B D σ H')(h:∀Bx:TS,(∀H',Z H'->Bx D σ H')->tIfS t A Bx D σ H):tIfS t A B D σ H:=h B a
theorem Qzb{t:TT}{A B:TS}(Z:Hp->Prop)(a:∀H',Z H'->A D σ H')(h:∀Ax:TS,(∀H',Z H'->Ax D σ H')->tIfS t Ax B D σ H):tIfS t A B D σ H:=h A a
inductive Qqz(K:Fg)(vs:List V)(H:Hp)(Q:VK)(E:XK):Prop|mk(d P:Addr)(n:Int)(us:List V)(B:List BR)(pl:Z7)(_:vs=[.ref d,.ref P])(_:H d=some (.lst us))(_:RowsB H us B)(_:BookOk n B)(_:PlanAt K H P pl)(_:PlanFor n B pl)(_:AllW B)(_:∀(g:Addr) (ys:List V) (B':List BR) (H':Hp),Same H H'->H' g=some (.lst ys)->RowsB H' ys B'->BookOk n B'->PlanFor n B' pl->AllW B'->Q (.ref g) H'):Qqz K vs H Q E
theorem cutk(ks:List Key)(m:Nat):cutV (ks.map kV) none (some ((m:Nat):Int))=(ks.take m).map kV:=by
 unfold cutV
 rw[HT.sIx_none,jJb,kYe,HT.sIx_nat,jX,<-kXe]
 congr 1
 rcases Nat.le_total m ks.length with c | c
 .rw[jQb c]
 .rw[kZd c,zW (jJ _),zW c]
theorem Qit(h:r.cells.take 2=[inr ("bench":Str),inr x]):∃m,r=.bench x m:=by
 have c:r.word="bench":=by
  have:r.cells.take 2=inr r.word::(r.cells.drop 1).take 1:=by cases r<;>rfl
  rw[this]at h
  injection h with f
  exact Y37 f
 cases r with
 |bench b m=>
  have e:[(inr ("bench":Str):Key),inr b]=[inr ("bench":Str),inr x]:=h
  injection e with _ a
  injection a with d
  exists m,by rw[Y37 d]
 |days _=>have a:(0:Nat)=1:=(Xx _ (k:=1) Dc).mp c;exact Y21 a Dc
 |shut _ _ _=>have a:(2:Nat)=1:=(Xx _ (k:=1) Dc).mp c;exact Y21 a Dc
 |store _ _ _=>have a:(3:Nat)=1:=(Xx _ (k:=1) Dc).mp c;exact Y21 a Dc
 |work _=>have a:(4:Nat)=1:=(Xx _ (k:=1) Dc).mp c;exact Y21 a Dc
 |way _ _ _ _=>have a:(5:Nat)=1:=(Xx _ (k:=1) Dc).mp c;exact Y21 a Dc
 |after _ _ _=>have a:(9:Nat)=1:=(Xx _ (k:=1) Dc).mp c;exact Y21 a Dc
 |late _ _ _=>have a:(10:Nat)=1:=(Xx _ (k:=1) Dc).mp c;exact Y21 a Dc
 |use k _ _ _ _=>have a:(BR.use k _ _ _ _).kind=1:=(Xx _ (k:=1) Dc).mp c;match k,a with
  |0,a=>exact Y21 a (by show ¬((6:Nat)=1);decide)
  |1,a=>exact Y21 a (by show ¬((7:Nat)=1);decide)
  |2,a=>exact Y21 a (by show ¬((8:Nat)=1);decide)
theorem Qak{k:Nat}(c:k=2\/k=6\/k=7\/k=8\/k=9)(h:r.word=wordOf k):Drp r:=by
 have a:=(Xx r (k:=k) Om).mp h
 cases r with
 |shut _ _ _=>exact trivial
 |use _ _ _ _ _=>exact trivial
 |after _ _ _=>exact trivial
 |days _=>have b:(0:Nat)=k:=a;lia
 |bench _ _=>have b:(1:Nat)=k:=a;lia
 |store _ _ _=>have b:(3:Nat)=k:=a;lia
 |work _=>have b:(4:Nat)=k:=a;lia
 |way _ _ _ _=>have b:(5:Nat)=k:=a;lia
 |late _ _ _=>have b:(10:Nat)=k:=a;lia
section
variable{w:World}
theorem Qev{p:BR->Bool}:∀zs:List (Addr×BR),(zs.filter fun z=>p z.2).map (·.2)=(zs.map (·.2)).filter p
 |[]=>rfl
 |z::zs=>by
  rw[zX]
  cases e:p z.2 with
  |true=>rw[jQe (p:=fun z:Addr×BR=>p z.2) e,jQe e,zX,Qev zs]
  |false=>rw[wK (p:=fun z:Addr×BR=>p z.2) (by rw[e];exact yY),wK (by rw[e];exact yY),Qev zs]
theorem scEas:FnScope ["_law_book_here","_law_plan_here","_law_k","_law_found","_law_more","_law_row"] ["_law_book_here","_law_plan_here"] (Qh sEas):=Sc
theorem okEas(F:Fn K mg "_law_eased" sEas)(M:Mg mg)(aa:Cal P w K mg base 5 "broken" ["book","plan"] (Qte K)):Cal P w K mg base 6 "_law_eased" ["_law_book_here","_law_plan_here"] (Qqz K):=by
 refine Xv F scEas (a:=fun f aD A ay s H vs Q E hr h=>?_)
 obtain⟨d,Pp,n,us,B,pl,rfl,hd,hB,bk,hP,az,aB,q⟩:=h
 have ar:=Z6 6 hr.un
 refine⟨_,(Qg (Yb Y33 rfl (Xs rfl M.range_ (Qa Qe Qf)) (Z3 2 scEas.nd) (Qg (Z4 3 scEas.nd (Xk aa (hr.mono Dc) (Qa (pv 0) (Qa (pv 1) Qf))))
  (Qi (Xp (PW.pt (Zd (Ql Qdp (pv 3) Jk (Qp _)) (Ys (Ql Ye (Qs Yd (pv 3) Qe) Qq (Qp _))))) (Qi (Zv (i:=0) ["_law_row","_law_found"] [none,some 3] rfl scEas.nd rfl (inl rfl) (Xd (pv 0)) (fun _ _ _=>(Z3 0 (show(["_law_row","_law_found"]:List Str).Nodup by decide +kernel))) (fun _ _ _=>(Zh (Ql (op_neK (K:=K) (n:=6) rfl ar) (Xc (Jq (K:=K) rfl) (pv 0) Xn (Xe Qe)) (Yg (Vt (K:=K) rfl) rfl M.list_ Qhl (Qa (pv 1) Qf)) (Qp _)))) (fun _ _ _=>(pv 0)))) (Qi (Xp (Ql Qdp (pv 3) Jk (Qp _)) (Qg (Z4 4 scEas.nd (Xg Qf))
  (Qg (Yb Y33 rfl (Xd (pv 0)) (Z3 5 scEas.nd) (Qi (Xp (PW.pt (Zd (Ql (Qjm (K:=K) (n:=6) rfl ar) (Xc Jh (pv 5) Xn (Xe Qe)) (Xg (Qa Qq (Qa (Qs Yd (pv 3) Qe) Qf))) (Qp _)) (Ys (Ql Ye (Qs Yd (pv 3) Qe) Qq (Qp _))))) (Qi (Yj (Yt Y1 Y2 Y3 Xq (pv 4) (Qa (Xg (Qa Qq (Qa (Qs Yd (pv 3) Qe) (Qa Qe Qf)))) Qf)))) (Qi (Xp (PW.pt (Zd (Ql Ye (Qs Qn (pv 5) Qe) Qq (Qp _)) (Zd (Ql Ye (Qs Yd (pv 3) Qe) Qq (Qp _)) (Ys (Ql Ye (Qs Qn (pv 5) Qe) (Qs Yd (pv 3) Qe) (Qp _)))))) (Qi (Z4 4 scEas.nd (Qk Kr (pv 4) (Xg Qf)))) (Qi (Xp (PW.pt (Zd (Ql Ye (Qs Qn (pv 5) Qe) Qq (Qp _)) (Zd (Ql Ye (Qs Yd (pv 3) Qe) Qq (Qp _)) (Zd (Ql Qcj (pv 2) Qe (Qp _)) (Ys (Ql Ye (Qs Qn (pv 5) Qe) (Qs Yd (pv 3) Qe) (Qp _))))))) (Qi (Z4 4 scEas.nd (Qk Kr (pv 4) (Xg Qf)))) (Qi (Xp (PW.pt (Wy (Ql Wu (Qs Qn (pv 5) Qe) (Xg (Qa Qq (Qa Qq Qf))) rfl) (Wy (Ql Ye (Qs Yd (pv 3) Qe) Qq (Qp _)) (Kq (Ql Wb (Qs Qn (pv 5) Qe) (Qs Yd (pv 3) Qe) (Qp _)))))) (Qi (Yj (Yt Y1 Y2 Y3 Xq (pv 4) (Qa (pv 5) Qf)))) Qv)))))))))
  (Qi (Z4 0 scEas.nd (pv 4))))) Qv))))))
  (Qi (Qx (pv 0)))),?_⟩
 exists"z"
 let au:Nat->St->Hp->Prop:=fun i σ H1=>∃(g:Addr) (ys:List V) (W:List BR) (u2 u3 u4 u5:Option V),σ=[some (.ref g),some (.ref Pp),u2,u3,u4,u5]/\H1 g=some (.lst ys)/\RowsB H1 ys W/\BookOk n W/\PlanFor n W pl/\AllW W/\Same H H1
 exists 12,rfl,Dc,Dc,Xy (lo:=0) (n:=(12:Int).toNat) au ⟨d,us,B,none,none,none,none,rfl,hd,hB,bk,az,aB,Same.refl _⟩ ?_ ?_
 .rintro i σ H1 hi ⟨g,ys,W,u2,u3,u4,u5,rfl,hg,ab,Z,C,af,s1⟩
  have lB:=Z.wb.len
  have ly:=ab.length
  exists _,rfl,_,rfl,g,Pp,n,ys,W,pl,rfl,hg,ab,Z,PlanAt.same hP s1,C,fun v H2 s2 hD=>?_
  have an:=s1.trans s2
  have ad:=s2 _ _ hg
  have al:=ab.same s2
  cases e:dueF n W pl with
  |none=>
   rw[e]at hD
   have hD:v=.non:=hD
   subst hD
   exists _,rfl,rfl,_,rfl,iteF (iteF ?_)
   exists _,rfl,rfl,_,rfl,iteF ?_
   exists g,ys,W,_,_,_,_,rfl,ad,al,Z,C,af,an
  |some ks=>
   rw[e]at hD
   obtain⟨L,ev,hT⟩:=hD
   subst ev
   obtain⟨a,b,o,rfl⟩:=Quf e
   have ah:atI ((inr a::inr b::o:List Key).map kV) 0=some (.str a):=Jy (k:=0) rfl
   have ag:atI ((inr a::inr b::o:List Key).map kV) 1=some (.str b):=Jy (k:=1) rfl
   exists _,rfl,rfl,_,rfl,iteT ?_
   exists _,rfl,L,_,_,_,rfl,rfl,Xb hT,ah,rfl,_,rfl,ite2 (fun c=>?_) (fun c=>?_)
   .obtain⟨zs,eu,eB,ax⟩:=Qqu al
    have lz:zs.length<=400:=by rw[<-eB,jX]at lB;exact lB
    exists _,rfl,g,rfl,⟨_,Qb ad⟩,fun D hD=>?_
    refine Qqt (fun z:Addr×BR=>V.ref z.1) id (fun z:Addr×BR=>decide (z.2.cells.take 3≠inr a::inr b::o)) rfl (Ke (val:=fun z:Addr×BR=>V.ref z.1) (Qb (by rw[<-eu];exact ad))) Om hD (fun z aj H3 s3 P h=>?_) (fun z aj _ H3 s3 P h=>?_) fun H3 s3 h3=>?_
    .refine⟨_,rfl,_,rfl,z.1,_,rfl,Qb (s3 _ _ (ax z aj)),fun p1 ao=>?_⟩
     rw[show cutV (z.2.cells.map kV) none (some 3)=(z.2.cells.take 3).map kV from cutk _ 3]
     have s4:=Qd ao (.lst ((z.2.cells.take 3).map kV))
     have h4:upd H3 p1 (.lst ((z.2.cells.take 3).map kV)) p1=some (.lst ((z.2.cells.take 3).map kV)):=Qc
     generalize upd H3 p1 (.lst ((z.2.cells.take 3).map kV))=S at s4 h4⊢
     exists _,rfl,L,_,rfl,.inr (Xb ((s3.trans s4) _ _ hT)),fun p2 ai=>?_
     exists p1,p2,_,_,rfl,rfl,Qb (Qd ai _ _ _ h4),Qb Qc,fun c5 ak=>?_
     have h5:=h _ (s4.trans (Qd ai (.lst ((inr a::inr b::o:List Key).map kV))))
     exists _,rfl,?_
     rw[show decide (z.2.cells.take 3≠inr a::inr b::o)=!c5 by
      cases c5 with
      |true=>rw[ak.mp rfl];exact xK (fun z=>z rfl)
      |false=>exact yX fun z=>yY (ak.mpr z)]at h5
     exact h5
    .exact⟨_,rfl,h H3 (Same.refl _)⟩
    rw[List.map_id]at h3
    have eE:Eased W ((zs.filter fun z:Addr×BR=>decide (z.2.cells.take 3≠inr a::inr b::o)).map (·.2)):=by
     rw[<-eB,Qev (p:=fun r=>decide (r.cells.take 3≠inr a::inr b::o))]
     refine Wx fun r _ hr=>?_
     have hr:=Y69 hr
     have hr:r.cells.take 3=inr a::inr b::o:=Classical.byContradiction hr
     have ea:a="after":=eqS c
     refine Qak (k:=9) Om ?_
     have:r.cells.take 3=inr r.word::(r.cells.drop 1).take 2:=by cases r<;>rfl
     rw[this]at hr
     injection hr with h1
     rw[Y37 h1,ea]
     rfl
    exists D,_,_,_,_,_,_,rfl,h3,Qqv fun z aj=>s3 _ _ (ax z (zV.mp aj).1),Qkp eE Z,Qdj eE C,Qgy eE af,an.trans s3
   .refine⟨_,rfl,rfl,_,rfl,iteT ?_⟩
    exists Z1 0,fun m hm=>?_
    have s3:=Qd hm (.lst [])
    have h3:upd H2 m (.lst []) m=some (.lst []):=Qc
    generalize upd H2 m (.lst [])=H3 at s3 h3⊢
    let av:Nat->St->Hp->Prop:=fun j σ S=>∃(u5:Option V) (m:Addr) (ws:List V) (B2:List BR),σ=[some (.ref g),some (.ref Pp),some (.int (0+(i:Int))),some (.ref L),some (.ref m),u5]/\H2 m=none/\S m=some (.lst ws)/\RowsB S ws B2/\Eased (W.take j) B2/\Same H2 S
    exists _,rfl,g,rfl,⟨_,Qb (s3 _ _ ad)⟩,Yx (K:=K) (a:=g) (xs:=ys) av ⟨_,m,[],[],rfl,hm,h3,.nil,.nil,s3⟩ (fun j σ S _ h=>?_) ?_ ?_
    .obtain⟨u5,m,ws,B2,rfl,_,_,_,_,s4⟩:=h
     exact Qb (s4 _ _ ad)
    .rintro j x σ S ex ⟨u5,m,ws,B2,rfl,ae,h4,X,hE,s4⟩
     obtain⟨r,l,er,rfl,ap⟩:=al.get ex
     have hl:=s4 _ _ ap
     have O:=s4 _ _ hT
     have jl:=(jK.mp er).1
     have wl:ws.length<=400:=by
      have h1:=X.length
      have h2:=Qgw hE
      rw[zZ]at h2
      lia
     have aw:=Yl r
     have DROP:∀u,Same S u->Drp r->∃(u5':Option V) (U:Addr) (ws':List V) (B2':List BR),[some (.ref g),some (.ref Pp),some (.int (0+(i:Int))),some (.ref L),some (.ref m),some (.ref l)]=[some (V.ref g),some (.ref Pp),some (.int (0+(i:Int))),some (.ref L),some (.ref U),u5']/\H2 U=none/\u U=some (.lst ws')/\RowsB u ws' B2'/\Eased (W.take (j+1)) B2'/\Same H2 u:=fun u y aq=>
      ⟨_,m,ws,B2,rfl,ae,y _ _ h4,X.same y,by rw[Wa er,<-xV B2];exact hE.app (.drop aq .nil),s4.trans y⟩
     have NIL:∀u,Same S u->Drp r->∀U,u U=none->∃(u5':Option V) (m'':Addr) (ws':List V) (B2':List BR),[some (.ref g),some (.ref Pp),some (.int (0+(i:Int))),some (.ref L),some (.ref U),some (.ref l)]=[some (V.ref g),some (.ref Pp),some (.int (0+(i:Int))),some (.ref L),some (.ref m''),u5']/\H2 m''=none/\(upd u U (.lst (ws++[]))) m''=some (.lst ws')/\RowsB (upd u U (.lst (ws++[]))) ws' B2'/\Eased (W.take (j+1)) B2'/\Same H2 (upd u U (.lst (ws++[]))):=fun u y aq U Y=>
      ⟨_,U,ws++[],B2,rfl,(s4.trans y).free Y,Qc,by rw[xV];exact X.same (y.trans (Qd Y _)),by rw[Wa er,<-xV B2];exact hE.app (.drop aq .nil),(s4.trans y).trans (Qd Y _)⟩
     have PUT:∀u,Same S u->∀(x:Addr) (r':BR),Ez r r'->u x=some (.lst (r'.cells.map kV))->x≠m->∃(u5':Option V) (m'':Addr) (ws':List V) (B2':List BR),[some (.ref g),some (.ref Pp),some (.int (0+(i:Int))),some (.ref L),some (.ref m),some (.ref l)]=[some (V.ref g),some (.ref Pp),some (.int (0+(i:Int))),some (.ref L),some (.ref m''),u5']/\H2 m''=none/\(upd u m (.lst (ws++[.ref x]))) m''=some (.lst ws')/\RowsB (upd u m (.lst (ws++[.ref x]))) ws' B2'/\Eased (W.take (j+1)) B2'/\Same H2 (upd u m (.lst (ws++[.ref x]))):=fun u y x r' aC hx aA=>
      ⟨_,m,_,B2++[r'],rfl,ae,Qc,((X.same y).updL (y _ _ h4) X.noRow).snoc (by rw[Qj aA];exact hx),by rw[Wa er];exact hE.app (.keep aC .nil),Yp (s4.trans y) ae⟩
     have lm:l≠m:=fun e=>by rw[e,ae]at ap;cases ap
     show tIfS _ _ _ _ _ _
     refine Qqy (Same S) (fun u y=>?_) (fun Bx t=>?_)
     rotate_left
     .refine⟨_,rfl,_,rfl,l,_,rfl,Qb hl,fun p1 ao=>?_⟩
      rw[show cutV (r.cells.map kV) none (some 2)=(r.cells.take 2).map kV from cutk _ 2]
      have s6:=Qd ao (.lst ((r.cells.take 2).map kV))
      have h6:upd S p1 (.lst ((r.cells.take 2).map kV)) p1=some (.lst ((r.cells.take 2).map kV)):=Qc
      generalize upd S p1 (.lst ((r.cells.take 2).map kV))=H6 at s6 h6⊢
      exists _,rfl,L,_,_,_,rfl,rfl,Xb (s6 _ _ O),ag,Z1 2,fun p2 ai=>?_
      have s7:=Qd ai (.lst [.str "bench",.str b])
      have h7:upd H6 p2 (.lst [.str "bench",.str b]) p2=some (.lst ([inr ("bench":Str),inr b].map kV)):=Qc
      generalize upd H6 p2 (.lst [.str "bench",.str b])=H7 at s7 h7⊢
      have N:=s6.trans s7
      exists p1,p2,_,_,rfl,rfl,Qb (s7 _ _ h6),Qb h7,fun c5 ak=>⟨_,rfl,ite2 (fun y1=>?_) (fun y1=>iteF (t H7 N))⟩
      exists _,rfl,L,_,_,_,rfl,rfl,Xb (N _ _ O),ah,rfl,_,rfl,ite2 (fun y2=>?_) (fun y2=>t H7 N)
      obtain⟨m0,rfl⟩:=Qit (ak.mp y1)
      exists _,rfl,.inl ⟨rfl,_,Qb (N _ _ h4)⟩,_,rfl,L,_,_,_,rfl,rfl,Xb (N _ _ O),ag,Z1 3,fun p3 I=>?_
      have G:=Qd I (.lst [.str "bench",.str b,.int 99])
      exists m,_,_,rfl,rfl,G _ _ (N _ _ h4),Om,?_
      exact PUT _ (N.trans G) p3 (.bench b 99) (.inr ⟨b,m0,rfl,rfl⟩) Qc (fun e=>by rw[e,N _ _ h4]at I;cases I)
     have J:=y _ _ hl
     have R:=y _ _ O
     have ac:=y _ _ h4
     show tIfS _ _ _ _ _ _
     refine Qqy (Same S) (fun H6 s6=>?_) (fun Bx t=>?_)
     rotate_left
     .refine⟨_,rfl,l,_,_,_,rfl,rfl,Qb J,aw,rfl,_,rfl,ite2 (fun y1=>?_) (fun y1=>iteF (t u y))⟩
      have ew:r.word=wordOf 2:=eqS y1
      exists _,rfl,L,_,_,_,rfl,rfl,Xb R,ah,rfl,_,rfl,ite2 (fun y2=>?_) (fun y2=>iteF (t u y))
      obtain⟨x,hx⟩:=Qug ew
      exists _,rfl,l,_,_,_,rfl,rfl,Qb J,hx,_,rfl,L,_,_,_,rfl,rfl,Xb R,ag,rfl,_,rfl,ite2 (fun y3=>?_) (fun y3=>t u y)
      exists _,rfl,Z1 0,fun p3 I=>?_
      have s7:=Qd I (.lst [])
      exists m,p3,_,_,rfl,rfl,s7 _ _ ac,Qc,by show _+0<=_;lia,fun U Y=>?_
      exact NIL _ (y.trans s7) (Qak (k:=2) Om ew) U Y
     clear y J R ac
     have J:=s6 _ _ hl
     have R:=s6 _ _ O
     have ac:=s6 _ _ h4
     show tIfS _ _ _ _ _ _
     refine Qqy (Same S) (fun H7 s7=>?_) (fun Bx t=>?_)
     rotate_left
     .refine⟨_,rfl,l,_,_,_,rfl,rfl,Qb J,aw,rfl,_,rfl,ite2 (fun y1=>?_) (fun y1=>iteF (t H6 s6))⟩
      have ew:r.word=wordOf 6:=eqS y1
      exists _,rfl,L,_,_,_,rfl,rfl,Xb R,ah,rfl,_,rfl,ite2 (fun y2=>?_) (fun y2=>iteF (t H6 s6))
      exists _,rfl,_,_,rfl,rfl,_,rfl,ite2 (fun y3=>?_) (fun y3=>iteF (t H6 s6))
      obtain⟨x,hx⟩:=Qqx (k:=6) (.inl rfl) ew
      exists _,rfl,l,_,_,_,rfl,rfl,Qb J,hx,_,rfl,L,_,_,_,rfl,rfl,Xb R,ag,rfl,_,rfl,ite2 (fun y4=>?_) (fun y4=>t H6 s6)
      exists _,rfl,Z1 0,fun p3 I=>?_
      have G:=Qd I (.lst [])
      exists m,p3,_,_,rfl,rfl,G _ _ ac,Qc,by show _+0<=_;lia,fun U Y=>?_
      exact NIL _ (s6.trans G) (Qak (k:=6) Om ew) U Y
     clear s6 J R ac
     have J:=s7 _ _ hl
     have R:=s7 _ _ O
     show tIfS _ _ _ _ _ _
     refine Qzb (Same S) (fun H8 G=>?_) (fun Ax am=>?_)
     .exact⟨_,rfl,.inl ⟨rfl,_,Qb (G _ _ h4)⟩,_,rfl,m,_,_,rfl,rfl,G _ _ h4,Om,PUT H8 G l r (.inl rfl) (G _ _ hl) lm⟩
     exists _,rfl,l,_,_,_,rfl,rfl,Qb J,aw,Z1 2,fun p3 I=>?_
     have G:=s7.trans (Qd I (.lst [.str "takes",.str "gives"]))
     have h8:upd H7 p3 (.lst [.str "takes",.str "gives"]) p3=some (.lst [.str "takes",.str "gives"]):=Qc
     generalize upd H7 p3 (.lst [.str "takes",.str "gives"])=H8 at G h8⊢
     exists p3,_,rfl,.inl (Qb h8),rfl,rfl,_,rfl,ite2 (fun y1=>iteT (am H8 G)) (fun y1=>?_)
     obtain⟨k,hk,ew⟩:=Qza y1
     exists _,rfl,L,_,_,_,rfl,rfl,Xb (G _ _ O),ah,rfl,_,rfl,ite2 (fun y2=>iteT (am H8 G)) (fun y2=>?_)
     obtain⟨x,hx⟩:=Qqx (.inr hk) ew
     exists _,rfl,l,_,_,_,rfl,rfl,Qb (G _ _ hl),hx,_,rfl,L,_,_,_,rfl,rfl,Xb (G _ _ O),ag,rfl,_,rfl,ite2 (fun y3=>am H8 G) (fun y3=>DROP H8 G (Qak (k:=k) Om ew))
    .rintro σ S ⟨u5,m,ws,B2,rfl,ae,h4,X,hE,s4⟩
     rw[ly,yW]at hE
     exists _,rfl,m,ws,B2,_,_,_,_,rfl,h4,X,Qkp hE Z,Qdj hE C,Qgy hE af,an.trans s4
 .rintro σ H1 ⟨g,ys,W,u2,u3,u4,u5,rfl,hg,ab,Z,C,af,s1⟩
  exists _,rfl,q g ys W H1 s1 hg ab Z C af
end
end Nb
namespace L2
open PySem PySem.Spec PySem.Calls PyProof.Rows PySem.W
theorem Qew(c:Nat):∀(k:Nat) (acc:Array Nat),(qg k #[c]).foldl (· ++ ·) acc=acc++(qg k c).toArray
 |0,acc=>by simp
 |k+1,acc=>by
  rw[yZd,yXe,Qew c k,yZd,Array.append_assoc]
  congr 1
  apply Array.toList_inj.mp
  rw[kXa]
  rfl
theorem Qcg:OpR X (binaryOp .Mult) (fun x y H Q=>∃(c:Nat) (n:Int),x=.str ⟨#[c]⟩/\y=.int n/\0<=n/\n<=10000000/\Q (.str ⟨(qg n.toNat c).toArray⟩) H):=by
 intro g s l H x y v u Q I j k h
 obtain⟨c,n,rfl,rfl,p,m,q⟩:=h
 obtain⟨t,rfl⟩:=j
 obtain⟨o,rfl⟩:=k
 have f:((⟨#[c]⟩:Str)).length=1:=rfl
 refine P.mul_str (by rw[xK Om,xK Om];rfl) (fun a b=>?_) (fun a b=>?_) ?_
 .rw[f]
  have:(1:Int)<=(2 ^ 63-1) / n:=by
   rw[Int.le_ediv_iff_mul_le Om]
   lia
  lia
 .rw[f,Nat.one_mul]
  unfold Builtin.Str.tooLong
  exact xK (by rw[sizeLine_eq];lia)
 .by_cases i:n<1
  .rw[Y22 i]
   obtain rfl:n=0:=Om
   exists wJ _,.str _,H,I.tok _,⟨_,rfl⟩,q
  .rw[Y20 i]
   by_cases d:(n == 1||((⟨#[c]⟩:Str)).length == 0)=true
   .rw[Y22 d]
    have e:n=1:=by
     rw[f]at d
     simpa using d
    subst e
    exists .str _,H,I,⟨_,rfl⟩,q
   .rw[Y20 d]
    exists ?_,.str _,H,I.tok _,⟨_,rfl⟩,?_
    .show((qg n.toNat #[c]).foldl (· ++ ·) #[]).size<=_
     rw[Qew,kKe,kX,kX,wY]
     show 0+_<=_
     rw[sizeLine_eq]
     lia
    .rw[show(⟨(qg n.toNat #[c]).foldl (· ++ ·) #[]⟩:Str)=⟨(qg n.toNat c).toArray⟩by rw[Qew];simp]
     exact q
end L2
namespace Nb
open PySem L2
abbrev sUse:Stmt:=top 48
abbrev sPic:Stmt:=top 47
inductive Qvr(K:Fg)(vs:List V)(H:Hp)(Q:VK)(E:XK):Prop|mk(d P:Addr)(bn:Str)(day n:Int)(us:List V)(B:List BR)(pl:Z7)(_:vs=[.ref d,.ref P,.str bn,.int day])(_:H d=some (.lst us))(_:RowsB H us B)(_:BookOk n B)(_:PlanAt K H P pl)(_:PlanFor n B pl)(_:∀H',Same H H'->Q (.int ((pl.map (useR B bn day)).sum)) H'):Qvr K vs H Q E
def dgL(k:Int):List Nat:=[48+(k / 10 % 10).toNat,48+(k % 10).toNat]++qg (k / 100).toNat 63
def lbL(n:Int)(u:Nat->Int)(b:Str):List Nat:=padL b++(List.range n.toNat).flatMap fun d=>dgL (u d)
def Qgz(n:Int)(B:List BR)(pl:Z7):List Str:=(Qcn B pl).map (wrC n B)++(bns B).map fun b=>ofL (lbL n (fun d:Nat=>(pl.map (useR B b (d:Int))).sum) b)
inductive Qra(K:Fg)(vs:List V)(H:Hp)(Q:VK)(E:XK):Prop|mk(d P:Addr)(n:Int)(us:List V)(B:List BR)(pl:Z7)(_:vs=[.ref d,.ref P])(_:H d=some (.lst us))(_:RowsB H us B)(_:BookOk n B)(_:PlanAt K H P pl)(_:PlanFor n B pl)(_:B.flatMap (gW pl)=[])(_:∀(g:Addr) (H':Hp),Same H H'->H' g=some (.lst ((Qgz n B pl).map V.str))->Q (.ref g) H'):Qra K vs H Q E
theorem Qkq:(" ":Str)=⟨#[32]⟩:=Dk
theorem qm_one:("?":Str)=⟨#[63]⟩:=Dk
theorem Qvs:∀k,k<10->atI ("0123456789":Str).cps.toList ((k:Nat):Int)=some (48+k):=Dk
theorem Qch(h:w.length<=12):sg (qf (w++⟨(qg 13 32).toArray⟩) none (some 13))=padL w:=by
 have a:=Qtx (w++⟨(qg 13 32).toArray⟩) 13
 rw[show((13:Nat):Int)=13 from rfl]at a
 rw[a,Yr]
 unfold padL
 have e:sg (⟨(qg 13 32).toArray⟩:Str)=qg 13 32:=rfl
 rw[e,List.take_append,zW (by rw[Xl];lia),List.take_replicate,Xl,show min (13-w.length) 13=13-w.length by lia]
theorem Qrb{n:Int}{B:List BR}(b:WB n B)(a:Str)(d:Int):∀{pl:Z7} {m:Nat},pl.length<=m->0<=(pl.map (useR B a d)).sum/\(pl.map (useR B a d)).sum<=m*(400*99)
 |[],m,_=>⟨kYb _,by simp;lia⟩
 |c::A,m,h=>by
  rw[yQ]at h
  obtain⟨k,rfl⟩:∃k,m=k+1:=⟨m-1,Om⟩
  have f:=Qvm b a d c
  have e:=Qrb b a d (pl:=A) (m:=k) Om
  rw[zX,jZa]
  lia
theorem Quh(n:Nat)(u:Nat->Int)(b:Str):padL b++(List.range (n+1)).flatMap (fun d=>dgL (u d))=(padL b++(List.range n).flatMap fun d=>dgL (u d))++dgL (u n):=by
 rw[yYa,yZb,xY]
 simp
section
variable{w:World}
theorem scUse:FnScope ["_law_book_here","_law_plan_here","_law_bench","_law_day","_law_total","_law_work","_law_done"] ["_law_book_here","_law_plan_here","_law_bench","_law_day"] (Qh sUse):=Sc
theorem okUse(F:Fn K mg "_law_used" sUse)(M:Mg mg)(g:Cal P w K mg base 1 "_law_length" ["_law_book_here","_law_work","_law_way_here"] (Qee K))(r:Cal P w K mg base 1 "_law_many" ["_law_book_here","_law_word","_law_work","_law_way_here","_law_thing"] (Qvc K)):Cal P w K mg base 2 "_law_used" ["_law_book_here","_law_plan_here","_law_bench","_law_day"] (Qvr K):=by
 refine Xv F scUse (a:=fun f ag A ab s H vs Q E hr h=>?_)
 obtain⟨d,m,e,a,n,Y,B,R,rfl,hd,hB,bk,hP,ac,q⟩:=h
 refine⟨_,(Qg (Z4 4 scUse.nd Qe)
  (Qg (Qxd (Yb Y33 rfl (Qtc (pv 1)) (Wc (K:=K) (i:=5) (j:=6) rfl rfl scUse.nd rfl rfl rfl rfl) (Qi (Xp (PW.pt (Zd (Ql Wz (Qs Yd (pv 6) Qe) (pv 3) (Qp _)) (Ys (Ql Qam (pv 3) (Qk Qy (Qs Yd (pv 6) Qe) (Xk g (hr.mono Dc) (Qa (pv 0) (Qa (pv 5) (Qa (Qs Yd (pv 6) Qe) Qf))))) (Qp _))))) (Qi (Z4 4 scUse.nd (Qk Qy (pv 4) (Xk r (hr.mono Dc) (Qa (pv 0) (Qa Qq (Qa (pv 5) (Qa (Qs Yd (pv 6) Qe) (Qa (pv 2) Qf))))))))) Qv))))
  (Qi (Qx (pv 4))))),?_⟩
 refine Qea ?_;intros
 exists"z"
 have bl:=bk.wb.len
 obtain⟨C,p,U⟩:=id hP
 have Z:wo H m d=some (.lst Y):=Qoy hd (Ym hd p (by intro z;cases z))
 have W:RowsB (wo H m) Y B:=hB.wo p
 have lp:=Paired.length U
 exists _,rfl,m,C,rfl,p,fun nf o=>Qow (fun i σ I=>∃N J:Option V,σ=[some (.ref d),some (.ref m),some (.str e),some (.int a),some (.int (((R.take i).map (useR B e a)).sum)),N,J]/\I m=some (.frz o (.dK C))/\Same (wo H m) I) ⟨none,none,rfl,Qc,Qtd (Same.refl _)⟩ (fun i σ I _ h=>?_) ?_ ?_
 .obtain⟨N,J,rfl,O,s2⟩:=h
  exact O
 .rintro i k x σ I T' ek ⟨N,J,rfl,O,s2⟩ ae
  obtain⟨⟨w,v,y⟩,eq,e1,t,e2,hT⟩:=Xh U ek
  have af:k=inr w:=e1
  have ad:x=.ref t:=e2
  subst af ad
  obtain⟨l,c,G,b0,b1⟩:=ac.good _ (kY eq)
  have u:=sqT_wo p hT
  have s3:=Qd ae (.tup [.str w,.ref t])
  exists T',_,rfl,Xb Qc,rfl,_,_,rfl,_,_,rfl,rfl,?_
  show tIfS _ _ _ _ _ (upd I T' (.tup [.str w,.ref t]))
  generalize upd I T' (.tup [.str w,.ref t])=H3 at s3⊢
  have b:=s2.trans s3
  have aa:((R.take (i+1)).map (useR B e a)).sum=((R.take i).map (useR B e a)).sum+useR B e a (w,v,y):=by
   rw[Jn eq,yK,List.sum_append]
   show _+(useR B e a (w,v,y)+0)=_
   lia
  have X:useR B e a (w,v,y)=if y<=a/\a<y+l then Yv B 0 w v e else 0:=by
   show(if y<=a/\a<y+lenB B w v then Yv B 0 w v e else 0)=_
   rw[Zl bk.wb G]
  have no:(¬(y<=a/\a<y+l))->∀L,Same H3 L->∃N J:Option V,[some (.ref d),some (.ref m),some (.str e),some (.int a),some (.int (((R.take i).map (useR B e a)).sum)),some (.str w),some (.ref t)]=[some (V.ref d),some (.ref m),some (.str e),some (.int a),some (.int (((R.take (i+1)).map (useR B e a)).sum)),N,J]/\L m=some (.frz o (.dK C))/\Same (wo H m) L:=fun hn L S=>by
   rw[aa,X,Y20 hn,Int.add_zero]
   exists _,_,rfl,S _ _ (s3 _ _ O),b.trans S
  exists _,rfl,t,_,_,_,rfl,rfl,b.tup u,at1,_,rfl,_,_,rfl,rfl,_,rfl,ite2 (fun y1=>?_) (fun y1=>iteF (no (fun z=>y1 (yX z.1)) H3 (Same.refl _)))
  exists _,rfl,_,rfl,t,_,_,_,rfl,rfl,b.tup u,at1,_,rfl,_,rfl,_,rfl,t,_,_,_,rfl,rfl,b.tup u,at0,d,w,v,n,Y,B,l,c,rfl,b _ _ Z,W.same b,bk.wb,G,fun L S=>⟨_,_,rfl,rfl,_,_,rfl,rfl,_,rfl,ite2 (fun y2=>?_) (fun y2=>no (fun z=>y2 (yX z.2)) L S)⟩
  have D:=b.trans S
  exists _,rfl,_,rfl,_,rfl,_,rfl,t,_,_,_,rfl,rfl,D.tup u,at0,_,rfl,d,0,w,v,e,Y,B,rfl,D _ _ Z,W.same D,Om,fun H5 s5=>⟨_,_,rfl,rfl,?_⟩
  rw[aa,X,Y22 ⟨kZ y1,kZ y2⟩]
  exists _,_,rfl,s5 _ _ (S _ _ (s3 _ _ O)),D.trans s5
 .rintro σ I ⟨N,J,rfl,O,s2⟩
  rw[lp,yW]
  exists m,o,C,nf,O,?_
  have sb:=Qoz p s2
  exists _,rfl,q _ sb
abbrev sLBR:Stmt:=top 51
theorem Qvt{us:List V}(d:RowsB H us B)(bk:BookOk n B):∃ld,atI us 0=some (.ref ld)/\H ld=some (.lst ((BR.days n).cells.map kV)):=by
 obtain⟨e,b⟩:∃e,us[0]?=some e:=⟨_,gE (by
  rw[d.length]
  exact(jK.mp bk.hd).1)⟩
 obtain⟨f,ld,a,rfl,c⟩:=d.get b
 rw[bk.hd]at a
 cases a
 exists ld,Jy (k:=0) b,c
theorem dig_in:∀c,c<128->(!(!(Builtin.Str.occurrences ("0123456789":Str) ⟨#[c]⟩ 0 ("0123456789":Str).length 1).isEmpty))=!(decide (48<=c)&&decide (c<=57)):=Dk
inductive spLBR(K:Fg)(vs:List V)(H:Hp)(Q:VK)(E:XK):Prop|mk(d:Addr)(n:Int)(us:List V)(B:List BR)(bn row:Str)(_:vs=[.ref d,.str bn,.str row])(_:H d=some (.lst us))(_:RowsB H us B)(_:BookOk n B)(_:bn.length<=12)(_:Pln row)(_:∀(c:Bool) (H':Hp),Same H H'->(c=true↔IsBR n bn row)->Q (.bl c) H'):spLBR K vs H Q E
theorem scLBR:FnScope ["_law_book_here","_law_bench","_law_row"] ["_law_book_here","_law_bench","_law_row"] (Qh sLBR):=Sc
theorem okLBR(F:Fn K mg "_law_bench_row" sLBR)(M:Mg mg):Cal P w K mg base 1 "_law_bench_row" ["_law_book_here","_law_bench","_law_row"] (spLBR K):=by
 refine Xv F scLBR (a:=fun f R A t s H W Q E hr h=>?_)
 obtain⟨d,n,us,B,i,a,rfl,Y,U,bk,j,⟨G,Z⟩,q⟩:=h
 have r:=Z6 6 hr.un
 refine⟨_,(Qg (Xp (PW.pt (Wy (Ql Wb (Xc Zc (pv 2) Xn (Xe Qe)) (Xc Zc (Qk Qz (pv 1) (Qk Qcg Qq Qe)) Xn (Xe Qe)) (Qp _)) (Kq (Ql Wb (Qr Yo rfl M.len Xr (Qa (pv 2) Qf)) (Qk Qy Qe (Qk Zy Qe (Qs Qn (Qs Qn (pv 0) Qe) Qe))) (Qp _))))) (Qi (Qx Qmn)) Qv)
  (Qi (Qx (Jg (Qdx (K:=K) (n:=6) rfl r) (Yh ["_law_sign"] [none] rfl (Qvi (Xc Zc (pv 2) (Xe Qe) Xn)) (fun _ _ _=>(Z3 0 Z2)) (fun _ _ _=>(Zh (Ql Qfi (pv 0) Qq rfl))) (fun _ _ _=>(pv 0))) (Xg Qf) (Qp _))))),?_⟩
 exists"z"
 have n1:=bk.n1
 have S:=bk.n12
 obtain⟨ld,L,z⟩:=Qvt U bk
 have q:∀(c:Bool) (o:Hp),Same H o->(c=true↔(sg a).take 13=padL i/\((sg a).drop 13).length=2*n.toNat/\∀c∈(sg a).drop 13,48<=c/\c<=57)->Q (.bl c) o:=fun c o s' h=>q c o s' (h.trans (Qkk j).symm)
 have l:sg (qf a (some 13) none)=(sg a).drop 13:=Qeo a 13
 have y:sg (qf a none (some 13))=(sg a).take 13:=Qtx a 13
 have lf:(qf a (some 13) none).length=((sg a).drop 13).length:=by rw[<-Xl,l]
 have O:((sg a).drop 13).length=a.length-13:=by rw[jXb,Xl]
 have lh:(qf a none (some 13)).length<=a.length:=by rw[<-Xl,y,zZ,Xl];lia
 have m:sg (qf (i++⟨(qg (Int.toNat 13) 32).toArray⟩) none (some 13))=padL i:=Qch j
 have I:(qf (i++⟨(qg (Int.toNat 13) 32).toArray⟩) none (some 13)).length=13:=by rw[<-Xl,m,Za j]
 exists _,rfl,_,rfl,a,rfl,Om,_,rfl,32,13,congrArg V.str Qkq,rfl,Dc,Dc,_,_,rfl,rfl,by show _+13<=_;lia,_,rfl,_,rfl,wZ (kJf I) Om,?_
 generalize qf (i++⟨(qg (Int.toNat 13) 32).toArray⟩) none (some 13)=X at m I⊢
 exists rfl,_,rfl,ite2 (fun c=>?_) (fun c=>?_)
 .refine iteT (q false H (Same.refl _) ⟨fun h=>(nomatch h),fun h=>?_⟩)
  have e:qf a none (some 13)=X:=Kv (by rw[y,m];exact h.1)
  rw[e]at c
  exact Y21 rfl (nd_t c)
 have x:(sg a).take 13=padL i:=by rw[<-y,<-m,V.str.inj (nd_f c)]
 exists _,rfl,a,rfl,Om,_,rfl,d,_,_,_,rfl,rfl,Qb Y,L,ld,_,_,_,rfl,rfl,Qb z,(show atI ((BR.days n).cells.map kV) 1=some (.int n)from rfl),?_
 exists _,_,rfl,rfl,mulC _ _ Dc Dc,_,_,rfl,rfl,rfl,_,rfl,ite2 (fun v=>?_) (fun v=>?_)
 .refine q false H (Same.refl _) ⟨fun h=>(nomatch h),fun h=>?_⟩
  refine Y21 ?_ (nd_t v)
  show V.int ((a.length:Nat):Int)=V.int (13+2*n)
  have:=h.2.1
  congr 1
  lia
 have e2:((sg a).drop 13).length=2*n.toNat:=by
  have e3:V.int ((a.length:Nat):Int)=V.int (13+2*n):=nd_f v
  have e4:=V.int.inj e3
  lia
 have k:∀c∈(sg a).drop 13,c<128:=fun c g=>pln_iff.mp G c (kJa g)
 have b:(qf a (some 13) none).cps.all (· < 128)=true:=pln_iff.mpr (by rw[l];exact k)
 exists _,rfl,_,rfl,a,rfl,Om,?_
 generalize qf a (some 13) none=fg at l lf b⊢
 exists fg,rfl,b,fun D N=>?_
 refine Qqt V.str (fun c:Nat=>(⟨#[c]⟩:Str)) (fun c=>!(decide (48<=c)&&decide (c<=57))) rfl Qkh (by rw[jXa];show fg.length<_;lia) N (fun c g p C P h=>?_) (fun c g hp p C P h=>⟨_,rfl,h p (Same.refl _)⟩) fun p C h1=>?_
 .refine⟨_,rfl,_,_,rfl,rfl,_,rfl,?_⟩
  rw[dig_in c (k c (by rw[<-l];exact g))]
  exact h p (Same.refl _)
 exists Z1 0,fun T u=>?_
 have J:=Qd u (.lst [])
 exists D,T,_,rfl,rfl,Qb (J _ _ h1),Qb Qc,q _ _ (C.trans J) ?_
 have e5:fg.cps.toList=(sg a).drop 13:=l
 rw[e5]
 rw[jKe,yZe,yZe,List.filter_eq_nil_iff]
 exists fun h=>⟨x,e2,fun c g=>?_⟩,fun h c g e=>?_
 .have:=h c g
  simpa using this
 .have:=h.2.2 c g
  simp at e
  lia
theorem Qex:("#":Str)=⟨#[35]⟩:=Dk
theorem Qiu:(".":Str)=⟨#[46]⟩:=Dk
theorem ds_at1:atI (".#":Str).cps.toList 1=some 35:=Dk
theorem ds_at0:atI (".#":Str).cps.toList 0=some 46:=Dk
theorem sgn_of{b e:Int}{d:Nat}{k:Bool}(h:k=true↔b<=(d:Int)/\(d:Int)<e):∃c,atI (".#":Str).cps.toList (if k=true then 1 else 0)=some c/\(⟨#[c]⟩:Str)=sgnS b e d:=by
 unfold sgnS
 cases k with
 |true=>exists 35,by rw[Y22 rfl];exact ds_at1,by rw[Y22 (h.mp rfl),Qex]
 |false=>exists 46,by rw[Y20 yY];exact ds_at0,by rw[Y20 (fun z=>yY (h.mpr z)),Qiu]
theorem Qui{w:Str}{b e:Int}(a:sg x=padL w):x++Str.join "" ((List.range n.toNat).map (sgnS b e)) ++ " " ++ v=ofL (wrL n w v b e):=by
 refine Kv ?_
 rw[Kf,Yr,Yr,Yr,a,Qai]
 unfold wrL
 rw[xY]
 rfl
theorem Qkr(h:B[i]?=some r):bns (B.take (i+1))=bns (B.take i)++(Jj r).toList:=Jo Jj h
theorem Qks(h:B[i]?=some r):wks (B.take (i+1))=wks (B.take i)++(Zu r).toList:=Jo Zu h
theorem Qdk(h:r.word="bench"):∃b m,r=.bench b m:=by
 have a:=(Xx r (k:=1) Dc).mp h
 cases r with
 |bench b m=>exists b,m,rfl
 |use k _ _ _ _=>match k,a with
  |0,a=>exact Y21 a (by show ¬((6:Nat)=1);decide)
  |1,a=>exact Y21 a (by show ¬((7:Nat)=1);decide)
  |2,a=>exact Y21 a (by show ¬((8:Nat)=1);decide)
 |days _=>have c:(0:Nat)=1:=a;lia
 |shut _ _ _=>have c:(2:Nat)=1:=a;lia
 |store _ _ _=>have c:(3:Nat)=1:=a;lia
 |work _=>have c:(4:Nat)=1:=a;lia
 |way _ _ _ _=>have c:(5:Nat)=1:=a;lia
 |after _ _ _=>have c:(9:Nat)=1:=a;lia
 |late _ _ _=>have c:(10:Nat)=1:=a;lia
theorem scPic:FnScope ["_law_book_here","_law_plan_here","_law_days","_law_rows","_law_row","_law_way_here","_law_begin","_law_end","_law_signs","_law_day","_law_number"] ["_law_book_here","_law_plan_here"] (Qh sPic):=Sc
theorem okPic(F:Fn K mg "_law_picture" sPic)(M:Mg mg)(p:Cal P w K mg base 1 "_law_length" ["_law_book_here","_law_work","_law_way_here"] (Qee K))(N:Cal P w K mg base 2 "_law_used" ["_law_book_here","_law_plan_here","_law_bench","_law_day"] (Qvr K)):Cal P w K mg base 3 "_law_picture" ["_law_book_here","_law_plan_here"] (Qra K):=by
 refine Xv F scPic (a:=fun f aq A ak s H vs Q E hr h=>?_)
 obtain⟨d,Pp,n,us,B,pl,rfl,hd,hB,bk,hP,Y,hW,q⟩:=h
 have hu:=Z6 1 hr.un
 refine⟨_,(QSs.pss (Zj (Qbg (i:=2) scPic.nd rfl (inl rfl) (QE.of (Qs Qn (Qs Qn (pv 0) Qe) Qe)))
  (Zj (Qbg (i:=3) scPic.nd rfl (inl rfl) (qe_lst qa_nil))
  (Zj (QS.of (Yb Y33 rfl (Xd (pv 0)) (Z3 4 scPic.nd) (QSs.pss (Wg (qs_if (Ql Ye (Qs Qn (pv 4) Qe) Qq (Qp _)) (Zj (qs_asg (QE.of (Va hu (pv 1) (Qs Qn (pv 4) Qe) (fun _ _=>rfl))) (Qiw rfl (Zr (Z3 5 scPic.nd) (Zr (Z3 6 scPic.nd) Qdo))))
  (Zj (Qbg (i:=7) scPic.nd rfl (Or.inr rfl) (QE.of (Qk Qy (pv 6) (Xk p (hr.mono Dc) (Qa (pv 0) (Qa (Qs Qn (pv 4) Qe) (Qa (pv 5) Qf)))))))
  (Zj (QS.of (Zv (i:=8) ["_law_day","_law_begin","_law_end"] [none,some 6,some 7] rfl scPic.nd rfl (inl rfl) (Xs rfl M.range_ (Qa (pv 2) Qf)) (fun _ _ _=>(Z3 0 (show(["_law_day","_law_begin","_law_end"]:List Str).Nodup by decide +kernel))) (fun _ _ _=>Zg) (fun _ _ _=>(Qs Qcu Qq (Yg Qmx rfl M.int_ Qnr (Qa (Vk (Jg Wz (pv 1) (pv 0) (Qp _)) (Ws (Jg Qam (pv 0) (pv 2) (Qp _)))) Qf))))))
  (Wg (QS.of (Yj (Yt Y1 Y2 Y3 Xq (pv 3) (Qa (Qk Qz (Qk Qz (Qk Qz (Xc Zc (Qk Qz (Qs Qn (pv 4) Qe) (Qk Qcg Qq Qe)) Xn (Xe Qe)) (Yt Y4 PySem.F.slot_str_join PySem.F.type_str_join (Qen (K:=K) rfl) Qq (Qa (pv 8) Qf))) Qq) (pv 5)) Qf)))))))) Qol)))))
  (Zj (QS.of (Yb Y33 rfl (Xd (pv 0)) (Z3 4 scPic.nd) (QSs.pss (Wg (qs_if (Ql Ye (Qs Qn (pv 4) Qe) Qq (Qp _)) (Zj (Qbg (i:=8) scPic.nd rfl (inl rfl) (QE.of (Xc Zc (Qk Qz (Qs Qn (pv 4) Qe) (Qk Qcg Qq Qe)) Xn (Xe Qe))))
  (Zj (QS.of (Yb Y33 rfl (Xs rfl M.range_ (Qa (pv 2) Qf)) (Z3 9 scPic.nd) (QSs.pss (Zj (Qbg (i:=10) scPic.nd rfl (inl rfl) (QE.of (Xk N (hr.mono Dc) (Qa (pv 0) (Qa (pv 1) (Qa (Qs Qn (pv 4) Qe) (Qa (pv 9) Qf)))))))
  (Zj (Qbg (i:=8) scPic.nd rfl (inl rfl) (QE.of (Qk Qz (pv 8) (Qs Qcu Qq (Qk Xf (Qk Xt (pv 10) Qe) Qe)))))
  (Wg (Qbg (i:=8) scPic.nd rfl (inl rfl) (QE.of (Qk Qz (Qk Qz (pv 8) (Qs Qcu Qq (Qk Xf (pv 10) Qe))) (Qk Qcg Qq (Qk Xt (pv 10) Qe)))))))))))
  (Wg (QS.of (Yj (Yt Y1 Y2 Y3 Xq (pv 3) (Qa (pv 8) Qf))))))) Qol)))))
  (Wg (qs_ret (QE.of (pv 3))))))))),?_⟩
 refine Qae ?_;intros
 exists"z"
 have bl:=bk.wb.len
 have lu:=hB.length
 have n1:=bk.n1
 have ax:=bk.n12
 have pf:=Qkg bk.wb Y
 have nd:=Y.nd bk.wb
 obtain⟨u0,ad⟩:∃u0,us[0]?=some u0:=⟨_,gE (by
  rw[lu]
  exact(jK.mp bk.hd).1)⟩
 obtain⟨r0,ld,ai,rfl,am⟩:=hB.get ad
 rw[bk.hd]at ai
 cases ai
 have a0:atI us 0=some (.ref ld):=Jy (k:=0) ad
 exists _,rfl,d,_,_,_,rfl,rfl,Qb hd,a0,ld,_,_,_,rfl,rfl,Qb am,(show atI ((BR.days n).cells.map kV) 1=some (.int n)from rfl),?_
 exists Z1 0,fun g hg=>?_
 have s0:=Qd hg (.lst [])
 have h0:upd H g (.lst []) g=some (.lst []):=Qc
 generalize upd H g (.lst [])=H0 at s0 h0⊢
 have L:∀w:Str,w.length<=12->(qf (w++⟨(qg 13 32).toArray⟩) none (some 13)).length=13:=fun w hw=>by rw[<-Xl,Qch hw,Za hw]
 have au:(⟨(qg 13 32).toArray⟩:Str).length=13:=rfl
 let ag:Nat->St->Hp->Prop:=fun i C H1=>∃u4 U O T Z:Option V,C=[some (.ref d),some (.ref Pp),some (.int n),some (.ref g),u4,U,O,T,Z,none,none]/\H1 g=some (.lst (((wks (B.take i)).map fun w=>wrC n B (w,look pl w)).map V.str))/\Same H H1
 exists _,rfl,d,rfl,⟨_,Qb (s0 _ _ hd)⟩,Yx (K:=K) (a:=d) (xs:=us) ag ⟨none,none,none,none,none,rfl,h0,s0⟩ (fun i C H1 _ h=>?_) ?_ ?_
 .obtain⟨u4,U,O,T,Z,rfl,_,J⟩:=h
  exact Qb (J _ _ hd)
 .rintro i x C H1 ex ⟨u4,U,O,T,Z,rfl,G,J⟩
  obtain⟨r,l,er,rfl,hl⟩:=(hB.same J).get ex
  have il:=(jK.mp er).1
  exists _,rfl,l,_,_,_,rfl,rfl,Qb hl,Yl r,rfl,_,rfl,ite2 (fun c=>?_) (fun c=>?_)
  .obtain⟨w,rfl⟩:=Kc (eqS c)
   have hw:=kY er
   obtain⟨l0,c0,ab,u,b0,b1⟩:=Y.get bk.wb (Zq hW hw)
   obtain⟨⟨v,b⟩,ae⟩:∃lk,look pl w=lk:=⟨_,rfl⟩
   rw[ae]at ab u b0 b1
   obtain⟨t,ap,hT⟩:=Qkd (PlanAt.same hP J) nd ab
   obtain⟨nw,nv⟩:=Jt bk u
   have az:=nv.2.1
   have ao:wrC n B (w,look pl w)=ofL (wrL n w v b (b+l0)):=by
    rw[ae]
    show ofL (wrL n w v b (b+lenB B w v))=_
    rw[Zl bk.wb u]
   have a1:atI ((BR.work w).cells.map kV) 1=some (.str w):=rfl
   exists _,rfl,_,rfl,l,_,_,_,rfl,rfl,Qb hl,a1,Pp,_,rfl,ap,t,_,rfl,hT,rfl,_,_,rfl,_,_,rfl,rfl,?_
   exists _,rfl,_,rfl,_,rfl,l,_,_,_,rfl,rfl,Qb hl,a1,_,rfl,d,w,v,n,us,B,l0,c0,rfl,J _ _ hd,hB.same J,bk.wb,u,fun H2 W=>⟨_,_,rfl,rfl,?_⟩
   exists _,rfl,n,rfl,Om,Om,fun D hD=>?_
   refine Wo V.str (sgnS b (b+l0)) rfl Wp (by rw[wX];lia) hD (fun dd aw H3 R P h=>?_) fun H3 R h3=>?_
   .have fin:∀k:Bool,(k=true↔b<=(dd:Int)/\(dd:Int)<b+l0)->∃(z:Str) (i:Int) (c:Nat),(V.str ".#")=.str z/\(V.int (if k=true then 1 else 0))=.int i/\z.length<=sizeLine/\atI z.cps.toList i=some c/\P (.str ⟨#[c]⟩) H3:=fun k hk=>by
     obtain⟨cc,h5,h6⟩:=sgn_of hk
     exists _,_,cc,rfl,rfl,Dk,h5,by rw[h6];exact h H3 (Same.refl _)
    exists _,rfl,_,rfl,_,_,rfl,rfl,_,rfl,ite2 (fun y1=>?_) (fun y1=>?_)
    .exact⟨_,rfl,_,rfl,_,_,rfl,rfl,.inr ⟨_,rfl,fin _ ⟨fun z=>⟨kZ y1,kZ z⟩,fun z=>yX z.2⟩⟩⟩
    .exact .inr ⟨false,rfl,fin false ⟨fun z=>(nomatch z),fun z=>Y21 (yX z.1) y1⟩⟩
   have aa:=W.trans R
   have al:=J.trans aa
   have lx:(qf (w++⟨(qg (Int.toNat 13) 32).toArray⟩) none (some 13)).length=13:=L w nw.2.1
   have px:sg (qf (w++⟨(qg (Int.toNat 13) 32).toArray⟩) none (some 13))=padL w:=Qch nw.2.1
   have lj:(Str.join "" ((List.range n.toNat).map (sgnS b (b+l0)))).length<=12:=by rw[<-Xl,Qai,Js];lia
   have ar:=nw.2.1
   exists _,rfl,.inl ⟨rfl,_,Qb (aa _ _ G)⟩,_,rfl,l,_,_,_,rfl,rfl,Qb (aa _ _ hl),a1,32,13,congrArg V.str Qkq,rfl,Dc,Dc,_,_,rfl,rfl,by show _+13<=_;lia,_,rfl,_,rfl,wZ (kJf lx) Om,?_
   generalize qf (w++⟨(qg (Int.toNat 13) 32).toArray⟩) none (some 13)=X at lx px⊢
   exists rfl,_,rfl,_,D,_,rfl,rfl,Qb h3,joinOk_of (b:=1) (fun t ht=>?_) (by rw[jX,wX];show _*1<=_;lia),?_
   .obtain⟨d,_,rfl⟩:=zK.mp ht
    unfold sgnS
    split<;>decide +kernel
   rw[join_eq]
   exists _,_,rfl,rfl,Om,?_
   exists _,_,rfl,rfl,by rw[Xj];show _+1<=_;lia,?_
   exists _,rfl,_,_,rfl,rfl,by rw[Xj,Xj];show _+_+1+_<=_;lia,?_
   rw[Qui px,<-ao]
   have wl:(wks (B.take i)).length<=400:=by
    have h8:(wks (B.take i)).length<=(B.take i).length:=xQ _ _
    rw[zZ]at h8
    lia
   exists g,_,_,rfl,rfl,aa _ _ G,by rw[jX,jX];lia,_,_,_,_,_,rfl,?_,Yp al hg
   rw[Qc,Qks er,yK,yK]
   rfl
  .refine⟨_,_,_,_,_,rfl,?_,J⟩
   rw[Qks er,Vy (fun e=>c (by rw[e];exact yesS _))]
   show _=some (HO.lst (((wks (B.take i)++[]).map _).map _))
   rw[xV]
   exact G
 rintro C H1 ⟨u4,U,O,T,Z,rfl,G,J⟩
 rw[lu,yW]at G
 let aj:Nat->St->Hp->Prop:=fun i C H2=>∃u4 U O T Z u9 o:Option V,C=[some (.ref d),some (.ref Pp),some (.int n),some (.ref g),u4,U,O,T,Z,u9,o]/\H2 g=some (.lst (((Qcn B pl).map (wrC n B)++(bns (B.take i)).map fun b=>ofL (lbL n (fun d:Nat=>(pl.map (useR B b (d:Int))).sum) b)).map V.str))/\Same H H2
 exists _,rfl,d,rfl,⟨_,Qb (J _ _ hd)⟩,Yx (K:=K) (a:=d) (xs:=us) aj ⟨_,_,_,_,_,none,none,rfl,?_,J⟩ (fun i C H2 _ h=>?_) ?_ ?_
 .have e:(Qcn B pl).map (wrC n B)=(wks B).map fun w=>wrC n B (w,look pl w):=by unfold Qcn;rw[kQa];rfl
  rw[G,e]
  show _=some (HO.lst ((_++[]).map _))
  rw[xV]
 .obtain⟨u4,U,O,T,Z,u9,o,rfl,_,W⟩:=h
  exact Qb (W _ _ hd)
 .rintro i x C H2 ex ⟨u4,U,O,T,Z,u9,o,rfl,y,W⟩
  obtain⟨r,l,er,rfl,hl⟩:=(hB.same W).get ex
  have il:=(jK.mp er).1
  exists _,rfl,l,_,_,_,rfl,rfl,Qb hl,Yl r,rfl,_,rfl,ite2 (fun c=>?_) (fun c=>?_)
  .obtain⟨b,m,rfl⟩:=Qdk (eqS c)
   have nb:NmOk b:=bk.gn _ (kY er) b jY
   have ah:=nb.2.1
   have a1:atI ((BR.bench b m).cells.map kV) 1=some (.str b):=rfl
   have lx:(qf (b++⟨(qg (Int.toNat 13) 32).toArray⟩) none (some 13)).length=13:=L b ah
   have px:sg (qf (b++⟨(qg (Int.toNat 13) 32).toArray⟩) none (some 13))=padL b:=Qch ah
   exists _,rfl,l,_,_,_,rfl,rfl,Qb hl,a1,32,13,congrArg V.str Qkq,rfl,Dc,Dc,_,_,rfl,rfl,by show _+13<=_;lia,_,rfl,_,rfl,wZ (kJf lx) Om,?_
   generalize qf (b++⟨(qg (Int.toNat 13) 32).toArray⟩) none (some 13)=X at lx px⊢
   let ac:Nat->St->Hp->Prop:=fun j C H3=>∃(S:Str) (u9 o:Option V),C=[some (.ref d),some (.ref Pp),some (.int n),some (.ref g),some (.ref l),U,O,T,some (.str S),u9,o]/\sg S=padL b++(List.range j).flatMap (fun d:Nat=>dgL ((pl.map (useR B b (d:Int))).sum))/\S.length<=13+30002*j/\Same H2 H3
   exists _,rfl,n,rfl,Om,Om,Xy (lo:=0) (n:=n.toNat) ac ⟨X,_,_,rfl,by rw[px];simp,Om,Same.refl _⟩ ?_ ?_
   .rintro j C H3 hj ⟨S,u9,o,rfl,hS,lS,R⟩
    rw[kYd]
    have I:=W.trans R
    exists _,rfl,_,rfl,_,rfl,l,_,_,_,rfl,rfl,Qb (R _ _ hl),a1,_,rfl,d,Pp,b,_,n,us,B,pl,rfl,I _ _ hd,hB.same I,bk,PlanAt.same hP I,Y,fun H4 s4=>?_
    have an:=Qrb bk.wb b (j:Int) (pl:=pl) (m:=64) Om
    have nx:=Quh j (fun d:Nat=>(pl.map (useR B b (d:Int))).sum) b
    generalize ek:(pl.map (useR B b (j:Int))).sum=k at an⊢
    have nx:padL b++(List.range (j+1)).flatMap (fun d:Nat=>dgL ((pl.map (useR B b (d:Int))).sum))=(padL b++(List.range j).flatMap fun d:Nat=>dgL ((pl.map (useR B b (d:Int))).sum))++dgL k:=by rw[<-ek];exact nx
    have d1:atI ("0123456789":Str).cps.toList (k / 10 % 10)=some (48+(k / 10 % 10).toNat):=by
     have:=Qvs (k / 10 % 10).toNat Om
     rw[show(((k / 10 % 10).toNat:Nat):Int)=k / 10 % 10 by lia]at this
     exact this
    have d2:atI ("0123456789":Str).cps.toList (k % 10)=some (48+(k % 10).toNat):=by
     have:=Qvs (k % 10).toNat Om
     rw[show(((k % 10).toNat:Nat):Int)=k % 10 by lia]at this
     exact this
    have af:∀m:Nat,(⟨(qg m 63).toArray⟩:Str).length=m:=fun m=>by show(qg m 63).toArray.size=m;rw[kX,wY]
    exists _,rfl,_,rfl,_,_,rfl,rfl,⟨Dc,Dc⟩,_,_,rfl,rfl,Z0,_,_,_,rfl,rfl,Dk,d1,_,_,rfl,rfl,by show _+1<=_;lia,?_
    exists _,rfl,_,rfl,_,_,rfl,rfl,Z0,_,_,_,rfl,rfl,Dk,d2,_,_,rfl,rfl,by rw[Xj];show _+1+1<=_;lia,?_
    exists _,rfl,_,_,rfl,rfl,⟨Dc,Dc⟩,63,_,congrArg V.str qm_one,rfl,Om,Om,_,_,rfl,rfl,by rw[Xj,Xj,af];show _+1+1+_<=_;lia,?_
    exists _,_,_,rfl,?_,?_,R.trans s4
    .rw[nx,<-hS,Yr,Yr,Yr,xY,xY]
     rfl
    .rw[Xj,Xj,Xj,af]
     show _+1+1+_<=_
     lia
   .rintro C H3 ⟨S,u9,o,rfl,hS,lS,R⟩
    have I:=W.trans R
    have eS:S=ofL (lbL n (fun d:Nat=>(pl.map (useR B b (d:Int))).sum) b):=Kv (by rw[hS,Kf];rfl)
    have wl:(Qcn B pl).length<=400/\(bns (B.take i)).length<=400:=by
     have h8:(bns (B.take i)).length<=(B.take i).length:=xQ _ _
     have h9:(wks B).length<=B.length:=xQ _ _
     rw[zZ]at h8
     unfold Qcn
     rw[jX]
     lia
    exists _,rfl,.inl ⟨rfl,_,Qb (R _ _ y)⟩,_,rfl,g,_,_,rfl,rfl,R _ _ y,by simp only[jX,jZ];lia,_,_,_,_,_,_,_,rfl,?_,Yp I hg
    rw[Qc,Qkr er,eS]
    simp only[yK,xY]
    rfl
  .refine⟨_,_,_,_,_,_,_,rfl,?_,W⟩
   rw[Qkr er,Wl (fun e=>c (by rw[e];exact yesS _))]
   show _=some (HO.lst ((_++(bns (B.take i)++[]).map _).map _))
   rw[xV]
   exact y
 rintro C H2 ⟨u4,U,O,T,Z,u9,o,rfl,y,W⟩
 rw[lu,yW]at y
 exists _,rfl,q g H2 W y
end
theorem at_one{c:Nat}:StrLaws.At x ⟨#[c]⟩ x.length i↔(sg x)[i]?=some c:=by
 unfold StrLaws.At Builtin.Str.subAt
 have f:(⟨#[c]⟩:Str).length=1:=rfl
 rw[f]
 show i+1<=x.cps.size/\(x.cps.extract i (i+1) == #[c])=true↔x.cps.toList[i]?=some c
 rw[beq_iff_eq,jZf]
 constructor
 .rintro⟨h,e⟩
  have b:=congrArg (fun a:Array Nat=>a[0]?) e
  have d:(x.cps.extract i (i+1))[0]?=x.cps[i]?:=by
   rw[Array.getElem?_extract]
   simp
   lia
  simp only[d]at b
  rw[b]
  rfl
 .intro e
  obtain⟨h,e⟩:=jKb.mp e
  exists h,?_
  apply Array.ext
  .simp;lia
  .intro j g b
   have:j=0:=by simp at b;lia
   subst this
   simp[e]
theorem Qkt(x:Str)(c:Nat):(Txt.find x ⟨#[c]⟩=-1/\c∉sg x)\/∃i:Nat,Txt.find x ⟨#[c]⟩=(i:Int)/\(sg x)[i]?=some c/\∀k,k<i->(sg x)[k]?≠some c:=by
 rcases PyProof.Rows.find_whole x ⟨#[c]⟩with⟨b,a⟩ | ⟨i,b,a,f⟩
 .refine .inl ⟨b,fun h=>?_⟩
  obtain⟨i,e⟩:=List.getElem?_of_mem h
  exact a i (at_one.mpr e)
 .exact .inr ⟨i,b,at_one.mp a,fun k d e=>f k d (at_one.mpr e)⟩
theorem Qzc(a:Nat)(i:Int){j:Int}(h:(a:Int)<=j):Builtin.Str.strSliceIndices (some i) (some j) 1 a=Builtin.Str.strSliceIndices (some i) (some (a:Int)) 1 a:=by
 have b:(if j<0 then j+(a:Int)else j)=j:=Y20 Om
 have d:(if (a:Int)<0 then(a:Int)+(a:Int)else(a:Int))=(a:Int):=Y20 Om
 have c:max (0:Int) (min j (a:Int))=max (0:Int) (min (a:Int) (a:Int)):=Om
 show sliceRange _ (if (1:Int) > 0 then max 0 (min (if j<0 then j+(a:Int)else j) (a:Int))else _) _=sliceRange _ (if (1:Int) > 0 then max 0 (min (if (a:Int)<0 then(a:Int)+(a:Int)else(a:Int)) (a:Int))else _) _
 rw[b,d,c];rfl
theorem Qzd(a:Nat)(i:Int){j:Int}(h:(a:Int)<=j):Builtin.Str.strSliceIndices (some j) (some i) 1 a=Builtin.Str.strSliceIndices (some (a:Int)) (some i) 1 a:=by
 have b:(if j<0 then j+(a:Int)else j)=j:=Y20 Om
 have d:(if (a:Int)<0 then(a:Int)+(a:Int)else(a:Int))=(a:Int):=Y20 Om
 have c:max (0:Int) (min j (a:Int))=max (0:Int) (min (a:Int) (a:Int)):=Om
 show sliceRange (if (1:Int) > 0 then max 0 (min (if j<0 then j+(a:Int)else j) (a:Int))else _) _ _=sliceRange (if (1:Int) > 0 then max 0 (min (if (a:Int)<0 then(a:Int)+(a:Int)else(a:Int)) (a:Int))else _) _ _
 rw[b,d,c];rfl
theorem sg_mid(x:Str)(k m:Nat):sg (qf x (some (k:Int)) (some ((k:Int)+(m:Int))))=((sg x).drop k).take m:=by
 have e:(sg x).length=x.length:=Xl x
 by_cases c:k+m<=x.length
 .have:=StrLaws.sliceText_nat x (a:=k) (b:=k+m) Om c
  rw[show((k:Int)+(m:Int))=((k+m:Nat):Int)by lia,this,yQd]
 have d:qf x (some (k:Int)) (some ((k:Int)+(m:Int)))=qf x (some (k:Int)) (some (x.length:Int)):=by
  unfold StrLaws.sliceText
  rw[Qzc x.length _ Om]
 rw[d]
 by_cases g:k<=x.length
 .rw[StrLaws.sliceText_nat x g (jJ _)]
  show((sg x).drop k).take _=_
  rw[zW (by rw[jXb];lia),zW (by rw[jXb];lia)]
 .have f:qf x (some (k:Int)) (some (x.length:Int))=qf x (some (x.length:Int)) (some (x.length:Int)):=by
   unfold StrLaws.sliceText
   rw[Qzd x.length _ Om]
  rw[f,StrLaws.sliceText_nat x (jJ _) (jJ _),kZa (l:=sg x) (i:=k) Om,Nat.sub_self,List.take_nil,kKb]
end Nb
namespace L2
open PySem PySem.Spec PySem.Calls PyProof.Rows PySem.W
theorem Qze:MtR X "str.find" (fun x xs H Q=>∃(a b:Str),x=.str a/\xs=[.str b]/\Q (.int (Txt.find a b)) H):=by
 intro c s g H x xs v j Q I d f h
 obtain⟨a,b,rfl,rfl,q⟩:=h
 obtain⟨t,rfl⟩:=d
 obtain⟨u,rfl,e⟩:=f.one
 obtain⟨i,rfl⟩:=e
 exact SC.find ⟨.int _,H,I.tok _,⟨_,rfl⟩,q⟩
theorem Qey:OpR X (binaryOp .Mult) (fun x y H Q=>∃(c:Nat) (n:Int),x=.str ⟨#[c]⟩/\y=.int n/\-10000000<=n/\n<=10000000/\Q (.str ⟨(qg n.toNat c).toArray⟩) H):=by
 intro d s g H x y v u Q I e f h
 obtain⟨c,n,rfl,rfl,k,i,q⟩:=h
 by_cases h:0<=n
 .exact Qcg d s g H _ _ _ _ Q I e f ⟨c,n,rfl,rfl,h,i,q⟩
 obtain⟨t,rfl⟩:=e
 obtain⟨j,rfl⟩:=f
 refine P.mul_str (by rw[xK Om,xK Om];rfl) (fun a b=>?_) (fun a b=>?_) ?_
 .omega
 .omega
 .rw[Y22 Om]
  rw[show n.toNat=0 by lia]at q
  exists wJ _,.str _,H,I.tok _,⟨_,rfl⟩,q
end L2
namespace Nb
open PySem L2
abbrev sLSe:Stmt:=top 50
theorem Qzf{b:Int}(e:0<=b)(g:0<=l)(h:b+l<=n):sgnL n b (b+l)=qg b.toNat 46++qg l.toNat 35++qg (n-b-l).toNat 46:=by
 unfold sgnL
 apply List.ext_getElem
 .simp only[jZ,wY,jX,wX];lia
 .intro i c d
  rw[jX,wX]at c
  rw[List.getElem_map,List.getElem_range]
  by_cases a:i<b.toNat
  .rw[Y20 Om,yQa (by rw[jZ,wY];lia),yQa (by rw[wY];exact a),yXb]
  .by_cases f:i<b.toNat+l.toNat
   .rw[Y22 Om,yQa (by rw[jZ,wY,wY];lia),List.getElem_append_right (by rw[wY];lia),yXb]
   .rw[Y20 Om,List.getElem_append_right (by rw[jZ,wY,wY];lia),yXb]
theorem Quj{b e:Int}(r:0<=b)(m:b<e)(p:e<=n)(h:sg x=sgnL n b e):Txt.find x ⟨#[35]⟩=b:=by
 have f:∀d:Nat,d<n.toNat->(sg x)[d]?=some (if b<=(d:Int)/\(d:Int)<e then 35 else 46):=fun d k=>by
  rw[h]
  unfold sgnL
  rw[yZ,yZc k]
  rfl
 have a:=f b.toNat Om
 rw[Y22 Om]at a
 rcases Qkt x 35 with⟨_,g⟩ | ⟨i,o,g,l⟩
 .exact Y21 (kY a) g
 .rw[o]
  have q:i<n.toNat:=by
   have:=(jK.mp g).1
   rw[h,Js]at this
   exact this
  have j:=f i q
  rw[g]at j
  have s:b<=(i:Int)/\(i:Int)<e:=by
   by_cases c:b<=(i:Int)/\(i:Int)<e
   .exact c
   .rw[Y20 c]at j;exact Y21 (Y5 j) Dc
  have t:¬b.toNat<i:=fun c=>l _ c a
  lia
theorem Qvu{X D:Str}{b:Int}(c:sg X=padL w)(d:0<=b)(a:0<=l)(h:b+l<=n)(e:sg D=qg b.toNat 46++qg l.toNat 35++qg (n-((b.toNat+l.toNat:Nat):Int)).toNat 46):X++D ++ " " ++ v=ofL (wrL n w v b (b+l)):=by
 refine Kv ?_
 rw[Kf,Yr,Yr,Yr,c,e,show n-((b.toNat+l.toNat:Nat):Int)=n-b-l by lia,<-Qzf d a h]
 unfold wrL
 rw[xY]
 rfl
inductive spLSe(K:Fg)(vs:List V)(H:Hp)(Q:VK)(E:XK):Prop|mk(d:Addr)(n:Int)(us:List V)(B:List BR)(w row:Str)(_:vs=[.ref d,.str w,.str row])(_:H d=some (.lst us))(_:RowsB H us B)(_:BookOk n B)(_:w.length<=12)(_:Pln row)(_:(∀t v b H',Same H H'->SqT K H' t [.str v,.int b]->ChOk n B (w,v,b)->row=wrC n B (w,v,b)->Q (.ref t) H'))(_:∀H',Same H H'->(∀c,ChOk n B c->c.1=w->row≠wrC n B c)->Q .non H'):spLSe K vs H Q E
section
variable{w:World}
theorem scLSe:FnScope ["_law_book_here","_law_work","_law_row","_law_head","_law_days","_law_signs","_law_begin","_law_way_here","_law_due_here"] ["_law_book_here","_law_work","_law_row"] (Qh sLSe):=Sc
theorem okLSe(F:Fn K mg "_law_seen" sLSe)(M:Mg mg)(p:Cal P w K mg base 1 "_law_ways" ["_law_book_here","_law_work"] (Qjy K)):Cal P w K mg base 2 "_law_seen" ["_law_book_here","_law_work","_law_row"] (spLSe K):=by
 refine Xv F scLSe (a:=fun f af A ac s H vs Q E hr h=>?_)
 obtain⟨d,n,us,B,w,g,rfl,hd,hB,bk,O,⟨am,ah⟩,qs,qn⟩:=h
 refine⟨_,(Qg (Z4 3 scLSe.nd (Xc Zc (Qk Qz (pv 1) (Qk Qey Qq Qe)) Xn (Xe Qe)))
  (Qg (Z4 4 scLSe.nd (Qs Qn (Qs Qn (pv 0) Qe) Qe))
  (Qg (Z4 5 scLSe.nd (Xc Zc (pv 2) (Xe Qe) (Xe (Qk Qy Qe (pv 4)))))
  (Qg (Z4 6 scLSe.nd (Yt Y4 PySem.F.slot_str_find PySem.F.type_str_find Qze (pv 5) (Qa Qq Qf)))
  (Qg (Yb Y33 rfl (Xd (Xk p (hr.mono Dc) (Qa (pv 0) (Qa (pv 1) Qf)))) (Z3 7 scLSe.nd) (Qg (Z4 8 scLSe.nd (Qk Qz (Qk Qey Qq (pv 6)) (Qk Qey Qq (Qs Qn (pv 7) Qe))))
  (Qg (Z4 8 scLSe.nd (Qk Qz (pv 8) (Qk Qey Qq (Qk Qal (pv 4) (Qr Yo rfl M.len Xr (Qa (pv 8) Qf))))))
  (Qi (Xp (PW.pt (Zd (Ql Qwb (pv 6) Qe (Qp _)) (Zd (Ql Ye (pv 2) (Qk Qz (Qk Qz (Qk Qz (pv 3) (pv 8)) Qq) (Qs Qn (pv 7) Qe)) (Qp _)) (Ys (Ql Ye (Qr Yo rfl M.len Xr (Qa (pv 8) Qf)) (pv 4) (Qp _)))))) (Qi (Qx (Yf (Qa (Qs Qn (pv 7) Qe) (Qa (pv 6) Qf))))) Qv)))))
  (Qi (Qx Jk))))))),?_⟩
 refine Qjp ?_;intros
 exists"z"
 have n1:=bk.n1
 have aj:=bk.n12
 have bl:=bk.wb.len
 obtain⟨ld,a0,ae⟩:=Qvt hB bk
 have px:sg (qf (w++⟨(qg (Int.toNat 13) 32).toArray⟩) none (some 13))=padL w:=Qch O
 have lx:(qf (w++⟨(qg (Int.toNat 13) 32).toArray⟩) none (some 13)).length=13:=by rw[<-Xl,px,Za O]
 exists _,rfl,32,13,congrArg V.str Qkq,rfl,Dc,Dc,_,_,rfl,rfl,by show _+13<=_;lia,_,rfl,_,rfl,wZ (kJf lx) Om,?_
 generalize qf (w++⟨(qg (Int.toNat 13) 32).toArray⟩) none (some 13)=X at px lx⊢
 exists _,rfl,d,_,_,_,rfl,rfl,Qb hd,a0,ld,_,_,_,rfl,rfl,Qb ae,(show atI ((BR.days n).cells.map kV) 1=some (.int n)from rfl),?_
 have em:sg (qf g (some 13) (some (13+n)))=((sg g).drop 13).take n.toNat:=by
  have:=sg_mid g 13 n.toNat
  rw[show((n.toNat:Nat):Int)=n by lia]at this
  exact this
 have lm:(qf g (some 13) (some (13+n))).length<=g.length:=by rw[<-Xl,em,zZ,jXb,Xl];lia
 exists _,rfl,_,rfl,_,rfl,_,_,rfl,rfl,_,rfl,g,rfl,Om,?_
 generalize qf g (some 13) (some (13+n))=S at em lm⊢
 have aa:∀{b e:Int},0<=b->b<e->e<=n->sg S=sgnL n b e->Txt.find S ⟨#[35]⟩=b:=fun u h2 h3 h4=>Quj u h2 h3 h4
 have bb:-1<=Txt.find S ⟨#[35]⟩/\Txt.find S ⟨#[35]⟩<=150000:=by
  rcases Qkt S 35 with⟨u,_⟩ | ⟨i,u,h2,_⟩
  .omega
  .have:=(jK.mp h2).1
   rw[Xl]at this
   lia
 exists _,rfl,rfl,S,⟨#[35]⟩,rfl,congrArg (fun t=>[V.str t]) Qex,?_
 generalize Txt.find S ⟨#[35]⟩=bg at aa bb⊢
 exists _,rfl,_,rfl,d,w,us,B,rfl,hd,hB,Om,fun D ys H1 s1 fD hD hY=>?_
 let ab:Nat->St->Hp->Prop:=fun i σ U=>∃I C:Option V,σ=[some (.ref d),some (.str w),some (.str g),some (.str X),some (.int n),some (.str S),some (.int bg),I,C]/\(∀j v l k,j<i->(B.filter (Zk w))[j]?=some (.way w v l k)->¬(0<=bg/\bg+l<=n/\g=wrC n B (w,v,bg)))/\Same H1 U
 exists D,rfl,⟨_,Qb hD⟩,Yx (K:=K) (a:=D) (xs:=ys) ab ⟨none,none,rfl,fun j _ _ _ h=>Y21 h (kQd j),Same.refl _⟩ (fun i σ U _ h=>?_) ?_ ?_
 .obtain⟨I,C,rfl,_,T⟩:=h
  exact Qb (T _ _ hD)
 .rintro i x σ U ex ⟨I,C,rfl,J,T⟩
  obtain⟨r,lr,Y,rfl,hr⟩:=(hY.same T).get ex
  obtain⟨v,l,k,rfl⟩:∃v l k,r=.way w v l k:=by
   have u:=(zV.mp (kY Y)).2
   cases r with
   |way w' v l k=>have e:w'=w:=kZ u;subst e;exists v,l,k,rfl
   |_=>cases u
  have G:=(zV.mp (kY Y)).1
  obtain⟨nw,nv⟩:=Jt bk G
  have al:=nv.2.1
  have lb:1<=l/\l<=n:=by have:=bk.wb.ok _ G;exists this.1,this.2.1
  have y:wrC n B (w,v,bg)=ofL (wrL n w v bg (bg+l)):=by
   show ofL (wrL n w v bg (bg+lenB B w v))=_
   rw[Zl bk.wb G]
  have NX:∀I C:Option V,¬(0<=bg/\bg+l<=n/\g=wrC n B (w,v,bg))->∃u7' u8':Option V,[some (.ref d),some (.str w),some (.str g),some (.str X),some (.int n),some (.str S),some (.int bg),I,C]=[some (.ref d),some (.str w),some (.str g),some (.str X),some (.int n),some (.str S),some (.int bg),u7',u8']/\(∀j v l k,j<i+1->(B.filter (Zk w))[j]?=some (.way w v l k)->¬(0<=bg/\bg+l<=n/\g=wrC n B (w,v,bg)))/\Same H1 U:=fun I C hn=>by
   exists I,C,rfl,fun j v' l' k' hj Z=>?_,T
   by_cases c:j<i
   .exact J j v' l' k' c Z
   .obtain rfl:j=i:=Om
    rw[Y]at Z
    cases Z
    exact hn
  have o:∀(m c:Nat),(⟨(qg m c).toArray⟩:Str).length=m:=fun m c=>by show(qg m c).toArray.size=m;rw[kX,wY]
  have a3:atI ((BR.way w v l k).cells.map kV) 3=some (.int l):=rfl
  have a2:atI ((BR.way w v l k).cells.map kV) 2=some (.str v):=rfl
  exists _,rfl,46,bg,congrArg V.str Qiu,rfl,Om,Om,_,rfl,lr,_,_,_,rfl,rfl,Qb hr,a3,35,l,congrArg V.str Qex,rfl,Om,Om,_,_,rfl,rfl,by rw[o,o];lia,?_
  have sd:sg ((⟨(qg bg.toNat 46).toArray⟩:Str)++(⟨(qg l.toNat 35).toArray⟩:Str))=qg bg.toNat 46++qg l.toNat 35:=Yr _ _
  have z:((⟨(qg bg.toNat 46).toArray⟩:Str)++(⟨(qg l.toNat 35).toArray⟩:Str)).length=bg.toNat+l.toNat:=by rw[Xj,o,o]
  generalize (⟨(qg bg.toNat 46).toArray⟩:Str)++(⟨(qg l.toNat 35).toArray⟩:Str)=L at sd z⊢
  exists _,rfl,_,rfl,_,rfl,L,rfl,Om,_,_,rfl,rfl,46,_,congrArg V.str Qiu,rfl,by rw[z];lia,Om,_,_,rfl,rfl,by rw[o];lia,?_
  have N:sg (L++(⟨(qg (n-(L.length:Int)).toNat 46).toArray⟩:Str))=qg bg.toNat 46++qg l.toNat 35++qg (n-((bg.toNat+l.toNat:Nat):Int)).toNat 46:=by rw[Yr,sd,z]
  have ad:(L++(⟨(qg (n-(L.length:Int)).toNat 46).toArray⟩:Str)).length=bg.toNat+l.toNat+(n-((bg.toNat+l.toNat:Nat):Int)).toNat:=by rw[Xj,o,z]
  generalize L++(⟨(qg (n-(L.length:Int)).toNat 46).toArray⟩:Str)=D2 at N ad⊢
  exists _,rfl,_,_,rfl,rfl,_,rfl,ite2 (fun y1=>?_) (fun y1=>iteF (NX _ _ fun h=>y1 (yX h.1)))
  exists _,rfl,_,rfl,_,rfl,_,_,rfl,rfl,Om,_,_,rfl,rfl,by rw[Xj];show _+1<=_;lia,_,rfl,lr,_,_,_,rfl,rfl,Qb hr,a2,_,_,rfl,rfl,by rw[Xj,Xj];show _+1+_<=_;lia,rfl,_,rfl,ite2 (fun y2=>?_) (fun y2=>iteF (NX _ _ fun h=>y2 (yX (congrArg V.str ?_))))
  .refine⟨_,rfl,D2,rfl,Om,_,rfl,rfl,_,rfl,ite2 (fun y3=>?_) (fun y3=>NX _ _ fun h=>y3 (yX (congrArg V.int ?_)))⟩
   .have e1:g=X++D2 ++ " " ++ v:=V.str.inj (kZ y2)
    have e2:((D2.length:Nat):Int)=n:=V.int.inj (kZ y3)
    have e0:0<=bg:=kZ y1
    have e3:bg+l<=n:=Om
    exists _,rfl,lr,_,_,_,rfl,rfl,Qb hr,a2,_,rfl,Z1 2,fun t ht=>?_
    refine qs t v bg _ ((s1.trans T).trans (Qd ht _)) (Xb Qc) ⟨l,k,G,e0,e3⟩ ?_
    rw[y,e1,Qvu px e0 Om e3 N]
   .omega
  .rw[h.2.2,y,Qvu px h.1 Om h.2.1 N]
 rintro σ U ⟨I,C,rfl,J,T⟩
 refine qn U (s1.trans T) fun c hc ew Y=>?_
 obtain⟨R,W,q⟩:=c
 have ew:R=w:=ew
 subst ew
 obtain⟨l,k,G,h0,u⟩:=hc
 have lb:1<=l:=(bk.wb.ok _ G).1
 have y:wrC n B (R,W,q)=ofL (wrL n R W q (q+l)):=by
  show ofL (wrL n R W q (q+lenB B R W))=_
  rw[Zl bk.wb G]
 have eS:sg S=sgnL n q (q+l):=by
  rw[em,Y,y,Kf]
  unfold wrL
  rw[xY,List.drop_left' (Za O),kJc (Js _ _ _)]
 have eb:=aa h0 (by show q<q+l;lia) u eS
 obtain⟨j,Z⟩:=List.getElem?_of_mem (zV.mpr ⟨G,(show Zk R (.way R W l k)=true from yX rfl)⟩)
 refine J j W l k (by rw[hY.length];exact(jK.mp Z).1) Z ?_
 rw[eb]
 exists h0,u,Y
end
end Nb
namespace L2
open PySem PySem.Spec PySem.Calls PyProof.Rows PySem.W
section
variable{D f2:Addr}{n:Str}
theorem Qzg{k:Nat}{p:Str}{np:Pos}{a:Expr}(F:ErrI X.K X.mg x C D f2 n)(G:FnOk X.prog X.w X.K X.mg X.base CX0 k f2 fd ["self",p] (spXI C n))(d:Binds X.K fd ["self",p] [])(t:X.K.lookup f2=some fo)(m:fo.cls=.type "function")(l:keepIn X.K (.ref C)=true)
  (c:Room (k+1) X.A) (j:PA X [a] ta) (i:qb (Gl X x)) (g:qc ((x == ("__debug__":Str))=false))
  (he:qb (starEach [a] X.env=(false,eval a X.env)::starEach [] X.env)) :
  PE X (.Call (.Name x np) [a] [] cpos) (fun σ H Q=>ta σ H fun vs H1=>∃y,vs=[y]/\∀e dx,H1 e=none->H1 dx=none->e≠dx->Q (.ref e) (upd (upd H1 e (excM e C dx)) dx (.xd [(n,y)]))):=by
 intro b s σ H Q I h
 refine Y41 (Kw I i F.bound ?_ g)
 refine callWith_K (h₀:=X.base) I.ok.mod.kin l (thn (j cpos b s σ H _ I h) fun us s1 ⟨vs,H1,I1,r,y,ey,q⟩=>⟨I1.kIn,?_⟩) he rfl
 subst ey
 cases r with
 |cons r0 rr=>
  cases rr
  exact Qqb F G c d t m I1 r0 fun dx u o f J=>⟨.ref _,_,J,rfl,q _ dx (I1.hok.fresh (yYe _)) o (Ne.symm f)⟩
def tFldM(K:Fg)(ta:TE)(n:Str):TE:=fun σ H Q=>ta σ H fun z H1=>∃(e C dx:Addr) (fs:List (Str×V)) (v:V),z=.ref e/\H1 e=some (excM e C dx)/\H1 dx=some (.xd fs)/\ExcFld K C n/\fs.lookup n=some v/\Q v H1
theorem Qzh{o:Expr}{ta:TE}(D:PE X o ta)(k:attributeBase o n X.env (eval o X.env)=eval o X.env):PE X (.Attribute o n pos) (tFldM X.K ta n):=by
 intro a s E H Q I h
 refine Qhi k (thn (D a s E H _ I h) fun u F c=>?_)
 obtain⟨z,g,b,i,e,C,d,fs,v,m,j,A,Z,l,q⟩:=c
 subst m
 obtain rfl:u=Value.ref e:=i
 obtain⟨t,y⟩:=(b.hok e _ j).1
 obtain⟨B,x,r⟩:=(show ObjOk X.prog X.w g F.heap d (.xd fs)from b.hok d _ A)
 obtain⟨G,p,f⟩:=RelO.some_of (v:=v) (o:=B n) (by rw[<-l];exact r n)
 exact Qpz b.kIn Z y x.ns p (handedOut_of (Qaq f)) ⟨v,g,b.tok _,f,q⟩
end
end L2
namespace Nb
open PySem L2
theorem hasK_ex:hasK pl w=true↔∃v b,(w,v,b)∈pl:=by
 unfold hasK
 rw[jXe]
 constructor
 .rintro⟨⟨x,v,b⟩,h,e⟩
  have e:x=w:=kZ e
  subst e
  exists v,b,h
 .rintro⟨v,b,h⟩
  exists _,h,yX rfl
theorem Qvv(f:PlanFor n B pl)(e:AllW B):B.flatMap (gW pl)=[]:=by
 rw[List.flatMap_eq_nil_iff]
 intro r d
 cases r with
 |work w=>
  have a:w∈wks B:=wks_mem.mpr d
  have g:w∈pl.map (·.1):=f.keys.mem_iff.mpr (zV.mpr ⟨a,e w a⟩)
  obtain⟨⟨x,v,b⟩,c,rfl⟩:=zK.mp g
  show(if hasK pl x=true then _ else _)=_
  rw[Y22 (hasK_ex.mpr ⟨v,b,c⟩)]
 |_=>rfl
theorem two_dig:∀k,k<100->twoL ((k:Nat):Int)=[48+k / 10,48+k % 10]:=Dk
theorem two_eq{k:Int}(b:0<=k)(a:k<=99):twoL k=dgL k:=by
 obtain⟨m,rfl⟩:∃m:Nat,k=(m:Int):=⟨k.toNat,Om⟩
 rw[two_dig m Om]
 unfold dgL
 rw[show(((m:Nat):Int) / 100).toNat=0 by lia,show(((m:Nat):Int) / 10 % 10).toNat=m / 10 by lia,show(((m:Nat):Int) % 10).toNat=m % 10 by lia]
 rfl
theorem Qvw{n:Int}{B:List BR}(bk:BookOk n B):∀{A A':List Ch},(∀c∈A,ChOk n B c)->(∀c∈A',ChOk n B c)->A.map (wrC n B)=A'.map (wrC n B)->A=A'
 |[],[],_,_,_=>rfl
 |[],_::_,_,_,h=>nomatch h
 |_::_,[],_,_,h=>nomatch h
 |a::A,b::A',h1,h2,h=>by
  rw[zX,zX]at h
  injection h with e f
  rw[Qqi bk (h1 a jY) (h2 b jY) e,Qvw bk (fun c d=>h1 c (kJ _ d)) (fun c d=>h2 c (kJ _ d)) f]
theorem SeenK.imp{rest:Str}{bad bad':Int->Prop}{good':List Ch->Prop}(h:SeenK n B Ls rest bad good)(f:∀z,bad z->bad' z)(g:∀A,good A->good' A):SeenK n B Ls rest bad' good' :=
 ⟨fun i w A a b c=>f _ (h.b1 i w A a b c),fun A j b x y z v=>f _ (h.b2 A j b x y z v),fun A a b c=>f _ (h.b3 A a b c),fun A j b d k m l o e p=>f _ (h.b4 A j b d k m l o e p),fun A d k m l o e=>f _ (h.b5 A d k m l o e),fun A d k m l o e=>g A (h.ok A d k m l o e)⟩
theorem nlS_eq:nlS=nl10:=Qqj
theorem Qha(h:NmOk x):∀c∈padL x,c≠10/\c<128:=fun c a=>by
 rcases kW.mp a with z | z
 .have:=h.2.2 c z;lia
 .rw[List.eq_of_mem_replicate z];decide
section
variable{rest:Str}{A:List Ch}
theorem Qzi(h:Zw n B Ls ws A)(e:ws[j]?=some w):∃c,ChOk n B c/\c.1=w/\Ls[j]?=some (wrC n B c):=by
 have d:(A.map (·.1))[j]?=some w:=by rw[h.1];exact e
 rw[yZ]at d
 obtain⟨c,b,f⟩:=jZe.mp d
 exists c,h.2.1 c (kY b),f,?_
 have a:=congrArg (fun l:List Str=>l[j]?) h.2.2
 simp only[yZ,b,kXf]at a
 rw[kXc (jK.mp b).1]at a
 exact a.symm
theorem Ju(h:Zw n B Ls ws A)(e:ws[j]?=some w)(d:Qgq n B Ls j w):False:=by
 obtain⟨c,f,b,a⟩:=Qzi h e
 exact d c f b a
theorem Qez(bk:BookOk n B){A':List Ch}(h:Zw n B Ls ws A)(h':Zw n B Ls ws A'):A'=A:=by
 have a:=congrArg List.length (h.1.trans h'.1.symm)
 rw[jX,jX]at a
 exact Qvw bk h'.2.1 h.2.1 (by rw[h'.2.2,h.2.2,a])
theorem Qku{k:Nat}(j:Zw n B Ls ((wks B).take k) A)(a:(wks B)[k]?=some w)(b:Qgq n B Ls k w):SeenK n B Ls rest (fun z=>z=(k:Int)) (fun _=>False):=by
 exists fun i l d f e g=>?_,fun d _ _ h _ _ _=>(Ju h a b).elim,fun d h _ _=>(Ju h a b).elim,fun d _ _ h _ _ _ _ _ _=>(Ju h a b).elim,fun d h _ _ _ _ _=>(Ju h a b).elim,fun d h _ _ _ _ _=>(Ju h a b).elim
 rcases kYf i k with c | c | c
 .exact(Ju j (by rw[kXc c];exact f) g).elim
 .rw[c]
 .exact(Ju e (by rw[kXc c];exact a) b).elim
theorem Qzj(r:Zw n B Ls (wks B) A){b:Str}(d:(bns B)[j]?=some b)(p:Wr n B Ls j)(f:¬∃row,Ls[(wks B).length+j]?=some row/\IsBR n b row):SeenK n B Ls rest (fun z=>z=(((wks B).length+j:Nat):Int)) (fun _=>False):=by
 have g:=(jK.mp d).1
 exists fun i s e l _ a=>(Ju r l a).elim,fun e o q _ m k a=>?_,fun e _ h _=>Y21 (h j b g d) f,fun e _ _ _ h _ _ _ _ _=>Y21 (h j b g d) f,fun e _ h _ _ _ _=>Y21 (h j b g d) f,fun e _ h _ _ _ _=>Y21 (h j b g d) f
 rcases kYf o j with c | c | c
 .exact Y21 (p o q c m) a
 .rw[c]
 .exact Y21 (k j b c d) f
theorem Qci(bk:BookOk n B)(f:Zw n B Ls (wks B) A)(m:Wr n B Ls (bns B).length){bad:Int->Prop}
  (r:((wks B).length+(bns B).length<Ls.length\/rest≠"")->bad (((wks B).length+(bns B).length:Nat):Int))
  (o:∀j b,Ls.length=(wks B).length+(bns B).length->rest=""->(bns B)[j]?=some b->Qce n B Ls A j->Ls[(wks B).length+j]?≠some (brC n B A b)->bad (((wks B).length+j:Nat):Int))
  (v:Ls.length=(wks B).length+(bns B).length->rest=""->Qce n B Ls A (bns B).length->dueF n B A≠none->bad (((wks B).length+(bns B).length:Nat):Int))
  (t:Ls.length=(wks B).length+(bns B).length->rest=""->Qce n B Ls A (bns B).length->dueF n B A=none->good A):SeenK n B Ls rest bad good:=by
 exists fun i x d g _ c=>(Ju f g c).elim,fun d l q _ e p c=>Y21 (m l q (jK.mp e).1 e) c,fun d _ _ h=>r h,fun d j b a _ k u s=>?_,fun d a _=>?_,fun d a _=>?_
 .rw[Qez bk f a];exact o j b k u s
 .rw[Qez bk f a];exact v
 .rw[Qez bk f a];exact t
theorem Qkv(bk:BookOk n B)(g:Zw n B Ls (wks B) A)(f:Wr n B Ls (bns B).length)(e:Ls.length≠(wks B).length+(bns B).length\/rest≠""):SeenK n B Ls rest (fun z=>z=(((wks B).length+(bns B).length:Nat):Int)) (fun _=>False):=by
 refine Qci bk g f (fun _=>rfl) (fun j b a d _ _ _=>?_) (fun a d _ _=>rfl) (fun a d _ _=>?_)
 .exact(e.elim (fun c=>c a) (fun c=>c d)).elim
 .exact e.elim (fun c=>c a) (fun c=>c d)
theorem Qzk(bk:BookOk n B)(r:Zw n B Ls (wks B) A)(p:Wr n B Ls (bns B).length)(t:Ls.length=(wks B).length+(bns B).length)(o:rest=""){b:Str}(a:(bns B)[j]?=some b)(s:Qce n B Ls A j)(e:Ls[(wks B).length+j]?≠some (brC n B A b)):SeenK n B Ls rest (fun z=>z=(((wks B).length+j:Nat):Int)) (fun _=>False):=by
 have l:=(jK.mp a).1
 refine Qci bk r p (fun c=>?_) (fun k q i m f d g=>?_) (fun i m h _=>Y21 (h j b l a) e) (fun i m h _=>Y21 (h j b l a) e)
 .exact c.elim (fun c=>Om) (fun c=>Y21 o c)
 .rcases kYf k j with c | c | c
  .exact Y21 (s k q c f) g
  .rw[c]
  .exact Y21 (d j b c a) e
theorem Qhb(bk:BookOk n B)(h:Zw n B Ls (wks B) A)(e:Wr n B Ls (bns B).length)(l:Ls.length=(wks B).length+(bns B).length)(d:rest="")(g:Qce n B Ls A (bns B).length){bad:Int->Prop}(k:dueF n B A≠none->bad (((wks B).length+(bns B).length:Nat):Int))(i:dueF n B A=none->good A):SeenK n B Ls rest bad good :=
 Qci bk h e (fun c=>(c.elim (fun c=>Om) (fun c=>c d)).elim) (fun j b _ _ a _ f=>Y21 (g j b (jK.mp a).1 a) f) (fun _ _ _=>k) (fun _ _ _=>i)
end
theorem Qmj{m:Nat}(h:(Nat.toDigits 10 m).length<=2):m<100:=by
 have step:∀m,10<=m->(Nat.toDigits 10 m).length=(Nat.toDigits 10 (m / 10)).length+1:=fun m f=>by
  have a:m % 10<10:=Nat.mod_lt m Dc
  have t:Nat.toDigits 10 (m / 10)++Nat.toDigits 10 (m % 10)=Nat.toDigits 10 (10*(m / 10)+m % 10):=Nat.toDigits_append_toDigits Dc Om a
  rw[Nat.div_add_mod]at t
  rw[<-t,jZ,jKd a]
  rfl
 have b:∀m,1<=(Nat.toDigits 10 m).length:=fun m=>by
  by_cases c:m<10
  .rw[jKd c];exact jJ _
  .rw[step m Om];lia
 by_cases c:m<100
 .exact c
 .have e:=step m Om
  have d:=step (m / 10) Om
  have:=b (m / 10 / 10)
  lia
theorem two_big{k:Int}(h:100<=k):3<=(twoL k).length:=by
 obtain⟨m,rfl⟩:∃m:Nat,k=(m:Int):=⟨k.toNat,Om⟩
 have a:3<=(numT ((m:Nat):Int)).length:=by
  refine Nat.lt_of_not_le fun c=>?_
  have:=Qmj (m:=m) (by rw[<-Xl,Qik,jX]at c;exact c)
  lia
 unfold twoL Txt.zfill
 rw[Y22 Om,Xl]
 exact a
theorem two_small{k:Int}(a:0<=k)(h:k<=99):(twoL k).length=2:=by
 obtain⟨m,rfl⟩:∃m:Nat,k=(m:Int):=⟨k.toNat,Om⟩
 rw[two_dig m Om]
 rfl
theorem two_all{u:Nat->Int}(a:∀d,0<=u d):∀l:List Nat,2*l.length<=(l.flatMap fun d=>twoL (u d)).length/\((l.flatMap fun d=>twoL (u d)).length=2*l.length->∀d∈l,u d<=99)
 |[]=>⟨jJ _,fun _ d h=>nomatch h⟩
 |d::l=>by
  obtain⟨f,b⟩:=two_all a l
  rw[jYf,jZ,yQ]
  by_cases c:u d<=99
  .have e:=two_small (a d) c
   exists Om,fun h x hx=>?_
   rcases kK.mp hx with rfl | hx
   .exact c
   .exact b Om x hx
  .have e:=two_big (k:=u d) Om
   exists Om,fun h=>Om
theorem Quk{u:Nat->Int}{b:Str}(i:∀d,0<=u d)(k:IsBR n b row):row=ofL (lbL n u b)↔row=ofL (brL n u b):=by
 obtain⟨o,e,l,j⟩:=k
 have key:(∀d∈List.range n.toNat,u d<=99)->lbL n u b=brL n u b:=fun h=>by
  unfold lbL brL
  rw[List.flatMap_def,List.flatMap_def]
  congr 2
  exact kJe fun d f=>(two_eq (i d) (h d f)).symm
 constructor
 .intro a
  rw[a,Kf]at e
  have g:=yQe e
  rw[a,key fun d f=>?_]
  refine Int.not_lt.mp fun c=>?_
  have m:(63:Nat)∈o:=by
   rw[<-g]
   refine jZc.mpr ⟨d,f,yV _ (List.mem_replicate.mpr ⟨Om,rfl⟩)⟩
  have:=j 63 m
  lia
 .intro a
  rw[a,Kf]at e
  have g:=yQe e
  rw[a,key ((two_all i _).2 (by rw[g,l,wX]))]
abbrev sLDu:Stmt:=top 52
def DueT(n:Int)(B:List BR)(Ls:List Str)(rest:Str)(v:V)(A:List Ch):Prop:=(∃z:Nat,v=.int (z:Int)/\SeenK n B Ls rest (fun y=>y=(z:Int)) fun _=>False)\/(v=.non/\SeenK n B Ls rest (fun _=>False) fun A'=>A'=A)
inductive spLDu(K:Fg)(vs:List V)(H:Hp)(Q:VK)(E:XK):Prop|mk(d:Addr)(text:Str)(n:Int)(us:List V)(B:List BR)(Ls:List Str)(rest:Str)(_:vs=[.ref d,.str text])(_:H d=some (.lst us))(_:RowsB H us B)(_:BookOk n B)(_:Pln text)(_:Txt.split text nl10=Ls++[rest])(_:∀t v g A H',Same H H'->SqT K H' t [v,.ref g]->PlanAt K H' g A->DueT n B Ls rest v A->Q (.ref t) H'):spLDu K vs H Q E
theorem Qrc{A:List Ch}{k:Nat}{b:Int}(a:Zw n B Ls ((wks B).take k) A)(f:(wks B)[k]?=some w)(g:Ls[k]?=some row)(i:ChOk n B (w,v,b))(e:row=wrC n B (w,v,b)):Zw n B Ls ((wks B).take (k+1)) (A++[(w,v,b)]):=by
 have j:A.length=k:=by
  have:=congrArg List.length a.1
  rw[jX,zZ]at this
  have:=(jK.mp f).1
  lia
 exists ?_,fun c d=>?_,?_
 .rw[yK,a.1,Jn f];rfl
 .rcases kW.mp d with h | h
  .exact a.2.1 c h
  .rw[jV.mp h];exact i
 .rw[yK,a.2.2,jZ,j]
  show _=Ls.take (k+1)
  rw[Jn g,e]
  rfl
theorem Qzl{A:List Ch}(a:WB n B)(b:Str)(d:Nat):0<=Vg B A b d:=(Qil a b d (jJ A.length)).1
section
variable{w:World}
theorem scLDu:FnScope ["_law_book_here","_law_text","_law_rows","_law_works_here","_law_things_here","_law_plan_here","_law_k","_law_done","_law_many_here","_law_due_here"] ["_law_book_here","_law_text"] (Qh sLDu):=Sc
theorem okLDu(F:Fn K mg "_law_due" sLDu)(M:Mg mg)(ae:Cal P w K mg base 2 "_law_seen" ["_law_book_here","_law_work","_law_row"] (spLSe K))(J:Cal P w K mg base 1 "_law_bench_row" ["_law_book_here","_law_bench","_law_row"] (spLBR K))(N:Cal P w K mg base 3 "_law_picture" ["_law_book_here","_law_plan_here"] (Qra K))(Z:Cal P w K mg base 5 "broken" ["book","plan"] (Qte K)):Cal P w K mg base 6 "_law_due" ["_law_book_here","_law_text"] (spLDu K):=by
 refine Xv F scLDu (a:=fun f aO A aC s H vs Q E hr h=>?_)
 obtain⟨d,p,n,us,B,g,rest,rfl,hd,hB,bk,pt,eL,q⟩:=h
 have hu:=Z6 1 hr.un
 refine⟨_,(Qg (Z4 2 scLDu.nd (Yt Y4 PySem.F.slot_str_split PySem.F.type_str_split Qel (pv 1) (Qa Qq Qf)))
  (Qg (Zv (i:=3) ["_law_row"] [none] rfl scLDu.nd rfl (inl rfl) (Xd (pv 0)) (fun _ _ _=>(Z3 0 Z2)) (fun _ _ _=>(Zh (Ql Ye (Qs (Xw (K:=K) rfl) (pv 0) Qe) Qq (Qp _)))) (fun _ _ _=>(Qs (Xw (K:=K) rfl) (pv 0) Qe)))
  (Qg (Zv (i:=4) ["_law_row"] [none] rfl scLDu.nd rfl (inl rfl) (Xd (pv 0)) (fun _ _ _=>(Z3 0 Z2)) (fun _ _ _=>(Zh (Ql Ye (Qs (Xw (K:=K) rfl) (pv 0) Qe) Qq (Qp _)))) (fun _ _ _=>(Qs (Xw (K:=K) rfl) (pv 0) Qe)))
  (Qg (Z4 5 scLDu.nd Qjj)
  (Qg (Yb Y33 rfl (Xs rfl M.range_ (Qa (Qk Qy (Qr Qu rfl M.len Xr (Qa (pv 3) Qf)) (Qr Qu rfl M.len Xr (Qa (pv 4) Qf))) Qf)) (Z3 6 scLDu.nd) (Qg (Xp (Ql Qwb (Qk Qy (pv 6) Qe) (Qr Qu rfl M.len Xr (Qa (pv 2) Qf)) (Qp _)) (Qi (Qx (Yf (Qa (pv 6) (Qa (pv 5) Qf))))) Qv)
  (Qi (Xp (Ql Qam (pv 6) (Qr Qu rfl M.len Xr (Qa (pv 3) Qf)) (Qp _)) (Qg (Z4 7 scLDu.nd (Xk ae (hr.mono Dc) (Qa (pv 0) (Qa (Qs Qn (pv 3) (pv 6)) (Qa (Qs Qn (pv 2) (pv 6)) Qf)))))
  (Qg (Xp (Ql Qiz (pv 7) Jk (Qp _)) (Qi (Qx (Yf (Qa (pv 6) (Qa (pv 5) Qf))))) Qv)
  (Qi (Qny hu (pv 5) (Qs Qn (pv 3) (pv 6)) (pv 7) rfl)))) (Qi (Xp (Vj (Jz (Xk J (hr.mono Dc) (Qa (pv 0) (Qa (Qs Qn (pv 4) (Qk Qal (pv 6) (Qr Qu rfl M.len Xr (Qa (pv 3) Qf)))) (Qa (Qs Qn (pv 2) (pv 6)) Qf)))))) (Qi (Qx (Yf (Qa (pv 6) (Qa (pv 5) Qf))))) Qv))))))
  (Qg (Z4 8 scLDu.nd (Qk Qy (Qr Qu rfl M.len Xr (Qa (pv 3) Qf)) (Qr Qu rfl M.len Xr (Qa (pv 4) Qf))))
  (Qg (Xp (PW.pt (Wy (Ql Wb (Qr Qu rfl M.len Xr (Qa (pv 2) Qf)) (Qk Qy (pv 8) Qe) (Qp _)) (Kq (Ql Wb (Qs Qn (pv 2) (pe_un un_neg Qe)) Qq (Qp _))))) (Qi (Qx (Yf (Qa (pv 8) (Qa (pv 5) Qf))))) Qv)
  (Qg (Z4 9 scLDu.nd (Xk N (hr.mono Dc) (Qa (pv 0) (Qa (pv 5) Qf))))
  (Qg (Yb Y33 rfl (Qmr rfl M.range_ (Qa (Qr Qu rfl M.len Xr (Qa (pv 3) Qf)) (Qa (pv 8) Qf))) (Z3 6 scLDu.nd) (Qi (Xp (Ql Wb (Qs Qn (pv 2) (pv 6)) (Qs Qn (pv 9) (pv 6)) (Qp _)) (Qi (Qx (Yf (Qa (pv 6) (Qa (pv 5) Qf))))) Qv)))
  (Qg (Xp (Ql Qdp (Xk Z (hr.mono Dc) (Qa (pv 0) (Qa (pv 5) Qf))) Jk (Qp _)) (Qi (Qx (Yf (Qa (pv 8) (Qa (pv 5) Qf))))) Qv)
  (Qi (Qx (Yf (Qa Jk (Qa (pv 5) Qf))))))))))))))),?_⟩
 refine Qom ?_;intros
 exists"z"
 have lu:=hB.length
 have bl:=bk.wb.len
 obtain⟨wf,bf⟩:=Qql bk
 have p2:=pt.2
 obtain⟨f1,f2⟩:=Wq (a:=p) (b:="\n") Om
 exists _,rfl,rfl,_,_,rfl,rfl,Dk,f1,f2,fun D hD=>?_
 rw[Qqj,eL]
 have hn:(g++[rest]).length<=p.length+2:=by
  have:=Qcd (x:=p) (c:=10)
  rw[show Txt.split p ⟨#[10]⟩=g++[rest]from eL]at this
  exact this
 rw[jZ]at hn
 have hn:g.length+1<=p.length+2:=hn
 have pL:∀x∈g,Pln x:=fun x hx=>Vh (c:=10) pt x (by rw[show Txt.split p ⟨#[10]⟩=g++[rest]from eL];exact zY _ hx)
 have s1:=Qd hD (.lst ((g++[rest]).map V.str))
 have h1:upd H D (.lst ((g++[rest]).map V.str)) D=some (.lst ((g++[rest]).map V.str)):=Qc
 generalize upd H D (.lst ((g++[rest]).map V.str))=H1 at s1 h1⊢
 exists _,rfl,d,rfl,⟨_,Qb (s1 _ _ hd)⟩,fun W au=>Qab (f:=Zu) (fun _ v x=>v=.str x) (fun _ e=>e) (fun _ e=>e) rfl (s1 _ _ hd) (hB.same s1) Om au (fun r lr H1 hm s1 hr P1 P2 k1 k2=>?_) (fun ys H2 s2 hE hi=>?_)
 .refine⟨_,rfl,lr,_,_,_,rfl,rfl,Qb hr,Yl r,rfl,_,rfl,ite2 (fun y=>?_) (fun y=>k2 (Vy fun e=>y (by rw[e];exact yesS _)) _ (Same.refl _))⟩
  obtain⟨w,rfl⟩:=Kc (eqS y)
  exists _,rfl,lr,_,_,_,rfl,rfl,Qb hr,(show atI ((BR.work w).cells.map kV) 1=some (.str w)from rfl),k1 _ _ w rfl (Same.refl _) rfl
 have hW:H2 W=some (.lst ((wks B).map V.str)):=by rw[hE,Zb hi];rfl
 have ad:=s1.trans s2
 exists _,rfl,d,rfl,⟨_,Qb (ad _ _ hd)⟩,fun T aB=>Qab (f:=Jj) (fun _ v x=>v=.str x) (fun _ e=>e) (fun _ e=>e) rfl (ad _ _ hd) (hB.same ad) Om aB (fun r lr H1 hm s1 hr P1 P2 k1 k2=>?_) (fun aX H3 s3 ar aw=>?_)
 .refine⟨_,rfl,lr,_,_,_,rfl,rfl,Qb hr,Yl r,rfl,_,rfl,ite2 (fun y=>?_) (fun y=>k2 (Wl fun e=>y (by rw[e];exact yesS _)) _ (Same.refl _))⟩
  obtain⟨b,m,rfl⟩:=Qdk (eqS y)
  exists _,rfl,lr,_,_,_,rfl,rfl,Qb hr,(show atI ((BR.bench b m).cells.map kV) 1=some (.str b)from rfl),k1 _ _ b rfl (Same.refl _) rfl
 have hT:H3 T=some (.lst ((bns B).map V.str)):=by rw[ar,Zb aw];rfl
 have ag:=ad.trans s3
 have aq:=ag _ _ hd
 have ax:=hB.same ag
 have aj:=s3 _ _ hW
 have ap:=(s2.trans s3) _ _ h1
 clear hE ar hi aw hW ad s2 s1 h1 hD au aB
 intro G ay
 have s4:=Qd ay (.dK [])
 have aA:upd H3 G (.dK []) G=some (.dK []):=Qc
 generalize upd H3 G (.dK [])=H4 at s4 aA⊢
 have lw:((wks B).map V.str).length=(wks B).length:=jX ..
 have lb:((bns B).map V.str).length=(bns B).length:=jX ..
 have lr:((g++[rest]).map V.str).length=g.length+1:=by rw[jX,jZ];rfl
 have ac:∀{Rs:List Str} {k:Nat} {t:Str},Rs[k]?=some t->atI (Rs.map V.str) (k:Int)=some (V.str t):=fun h=>Jy (by rw[yZ,h];rfl)
 have ao:∀{k:Nat} {t:Str},g[k]?=some t->atI ((g++[rest]).map V.str) (k:Int)=some (V.str t):=fun h=>ac (by rw[jYd (jK.mp h).1];exact h)
 exists _,rfl,W,_,rfl,.inl (Qb (s4 _ _ aj)),_,rfl,T,_,rfl,.inl (Qb (s4 _ _ hT)),_,_,rfl,rfl,_,rfl,Om,Om,Xy (lo:=0) (n:=(((((wks B).map V.str).length:Nat):Int)+((((bns B).map V.str).length:Nat):Int)).toNat) (fun k σ H5=>∃(u6 u7:Option V) (A:List Ch),σ=[some (.ref d),some (.str p),some (.ref D),some (.ref W),some (.ref T),some (.ref G),u6,u7,none,none]/\PlanAt K H5 G A/\Zw n B g ((wks B).take k) A/\Wr n B g (k-(wks B).length)/\Same H3 H5) ⟨none,none,[],rfl,⟨[],aA,.nil⟩,⟨rfl,fun _ h=>(nomatch h),rfl⟩,fun j b h=>Y21 h Om,s4⟩ ?_ ?_
 .rintro k σ H5 hk ⟨u6,u7,A,rfl,hP,I,u,R⟩
  rw[kYd]
  rw[lw,lb]at hk
  have hk:k<(wks B).length+(bns B).length:=Om
  have af:=R _ _ aq
  have aa:=ax.same R
  have U:=R _ _ aj
  have aK:=R _ _ hT
  have S:=R _ _ ap
  have RET:∀O,Same H5 O->SeenK n B g rest (fun z=>z=(k:Int)) (fun _=>False)->∀t,O t=none->Q (.ref t) (upd O t (.tup [.int (k:Int),.ref G])):=fun O L h t ht=>q t _ G A _ (((ag.trans R).trans L).trans (Qd ht _)) (Xb Qc) (PlanAt.same hP (L.trans (Qd ht _))) (.inl ⟨k,rfl,h⟩)
  have BN:(wks B).length<=k->∀b,(bns B)[k-(wks B).length]?=some b->(¬∃C,g[k]?=some C/\IsBR n b C)->SeenK n B g rest (fun z=>z=(k:Int)) (fun _=>False):=fun h b eb X=>by
   have ek:(wks B).length+(k-(wks B).length)=k:=Om
   rw[zW h]at I
   have:=Qzj (rest:=rest) I eb u (by rw[ek];exact X)
   rw[ek]at this
   exact this
  exists _,rfl,_,_,rfl,rfl,_,rfl,D,_,rfl,.inl (Qb S),_,_,rfl,rfl,_,rfl,ite2 (fun y=>?_) (fun y=>?_)
  .refine⟨_,rfl,_,rfl,Z1 2,RET H5 (Same.refl _) ?_⟩
   have y:=kZ y
   rw[lr]at y
   have X:g[k]?=none:=kZb Om
   by_cases c:k<(wks B).length
   .exact Qku I (gE c) fun c' _ _ e=>by rw[X]at e;cases e
   .exact BN Om _ (gE Om) fun⟨C,e,_⟩=>by rw[X]at e;cases e
  have kl:k<g.length:=by
   refine Nat.lt_of_not_le fun c=>y (yX ?_)
   rw[lr]
   lia
  clear y
  obtain⟨C,er⟩:∃C,g[k]?=some C:=⟨_,gE kl⟩
  have pr:=pL C (kY er)
  exists _,rfl,_,rfl,W,_,rfl,.inl (Qb U),_,_,rfl,rfl,_,rfl,ite2 (fun y=>?_) (fun y=>?_)
  .have y:=kZ y
   rw[lw]at y
   have y:k<(wks B).length:=Om
   obtain⟨w,ew⟩:∃w,(wks B)[k]?=some w:=⟨_,gE y⟩
   have nw:NmOk w:=bk.gn _ (wks_mem.mp (kY ew)) w jY
   exists _,rfl,_,rfl,_,rfl,W,_,_,_,rfl,rfl,Qb U,ac ew,_,rfl,_,rfl,D,_,_,_,rfl,rfl,Qb S,ao er,d,n,us,B,w,C,rfl,af,aa,bk,nw.2.1,pr,fun t v b O L ht hc aG=>?_,fun O L X=>?_
   .refine⟨_,rfl,rfl,_,rfl,iteF ?_⟩
    obtain⟨az,an,al⟩:=PlanAt.same hP L
    have aE:(inr w:Key)∉az.map (·.1):=fun h=>by
     rw[Ja al,I.1]at h
     obtain⟨x,hx,e⟩:=zK.mp h
     cases e
     obtain⟨j,hj,ej⟩:=kJd hx
     rw[zZ]at hj
     rw[List.getElem_take]at ej
     have h2:(wks B)[j]?=some w:=by rw[gE Om,ej]
     have:=(List.getElem?_inj y (Qka bk.wb)).mp (ew.trans h2.symm)
     lia
    have lk:az.length<=400:=by
     have h5:=congrArg List.length (Ja al)
     rw[jX,jX,I.1,zZ]at h5
     lia
    exists _,rfl,_,rfl,_,rfl,_,rfl,W,_,_,_,rfl,rfl,Qb (L _ _ U),ac ew,G,_,rfl,DPut.k (k:=inr w) an Om,_,_,A++[(w,v,b)],rfl,⟨_,Qc,?_⟩,Qrc I ew er hc aG,fun j b' hj=>?_,fun b o e=>?_
    .rw[Qjh _ (Qkb aE)]
     exact Paired.snoc (Paired.mapP al fun _ _ ⟨e,t',e2,z'⟩=>⟨e,t',e2,Qag an z'⟩) ⟨rfl,t,rfl,Qag an ht⟩
    .exact Y21 hj Om
    .rw[Qj (Qm e ay)];exact(R.trans L) _ _ e
   .refine⟨_,rfl,rfl,_,rfl,iteT ⟨_,rfl,_,rfl,Z1 2,RET O L ?_⟩⟩
    refine Qku I ew fun c hc e1 e2=>?_
    rw[er]at e2
    exact X c hc e1 (Y5 e2)
  have y:(wks B).length<=k:=by
   refine Nat.le_of_not_lt fun c=>y (yX ?_)
   rw[lw]
   lia
  obtain⟨b,eb⟩:∃b,(bns B)[k-(wks B).length]?=some b:=⟨_,gE Om⟩
  have nb:=Qaj bk (kY eb)
  have ab:atI ((bns B).map V.str) ((k:Int)-((((wks B).map V.str).length:Nat):Int))=some (.str b):=by
   rw[lw,show(k:Int)-(((wks B).length:Nat):Int)=((k-(wks B).length:Nat):Int)by lia]
   exact ac eb
  exists _,rfl,_,rfl,_,rfl,_,rfl,W,_,rfl,.inl (Qb U),_,_,rfl,rfl,T,_,_,_,rfl,rfl,Qb aK,ab,_,rfl,_,rfl,D,_,_,_,rfl,rfl,Qb S,ao er,d,n,us,B,b,C,rfl,af,aa,bk,nb.2.1,pr,fun c O L hc=>⟨c,rfl,ite2 (fun y3=>?_) (fun y3=>?_)⟩
  .refine⟨_,rfl,_,rfl,Z1 2,RET O L (BN y b eb fun aH=>?_)⟩
   obtain⟨aM,e,h⟩:=aH
   rw[er]at e
   cases e
   rw[hc.mpr h]at y3
   cases y3
  .have y3:c=true:=by simpa using y3
   exists _,_,A,rfl,PlanAt.same hP L,?_,fun j b' hj ej=>?_,R.trans L
   .rw[zW Om]
    rw[zW y]at I
    exact I
   .by_cases cj:j<k-(wks B).length
    .exact u j b' cj ej
    .obtain rfl:j=k-(wks B).length:=Om
     rw[eb]at ej
     cases ej
     exists C,by rw[show(wks B).length+(k-(wks B).length)=k by lia];exact er,hc.mp y3
 rintro σ H5 ⟨u6,u7,A,rfl,hP,I,u,R⟩
 rw[lw,lb]at I u
 have I:Zw n B g (wks B) A:=by
  rw[zW Om]at I
  exact I
 have u:Wr n B g (bns B).length:=by
  rw[show((((wks B).length:Nat):Int)+(((bns B).length:Nat):Int)).toNat-(wks B).length=(bns B).length by lia]at u
  exact u
 have af:=R _ _ aq
 have aa:=ax.same R
 have U:=R _ _ aj
 have S:=R _ _ ap
 have av:=ag.trans R
 exists _,rfl,W,_,rfl,.inl (Qb U),_,rfl,T,_,rfl,.inl (Qb (R _ _ hT)),_,_,rfl,rfl,?_
 have RET:∀(z:Nat) (O:Hp),Same H5 O->SeenK n B g rest (fun y=>y=(z:Int)) (fun _=>False)->∀t,O t=none->Q (.ref t) (upd O t (.tup [.int (z:Int),.ref G])):=fun z O L h t ht=>q t _ G A _ ((av.trans L).trans (Qd ht _)) (Xb Qc) (PlanAt.same hP (L.trans (Qd ht _))) (.inl ⟨z,rfl,h⟩)
 have eM: V.int (((((wks B).map V.str).length:Nat):Int)+((((bns B).map V.str).length:Nat):Int))=V.int (((wks B).length+(bns B).length:Nat):Int):=congrArg V.int (by rw[lw,lb];lia)
 rw[eM]
 exists _,rfl,D,_,rfl,.inl (Qb S),_,rfl,_,_,rfl,rfl,rfl,_,rfl,ite2 (fun y=>?_) (fun y=>?_)
 .refine iteT ⟨_,rfl,_,rfl,Z1 2,RET _ H5 (Same.refl _) (Qkv bk I u (.inl fun e=>nd_t y (congrArg V.int ?_)))⟩
  rw[lr,e]
  rfl
 have hl:g.length=(wks B).length+(bns B).length:=by
  have e:=V.int.inj (nd_f y)
  rw[lr]at e
  lia
 clear y
 have ak:atI ((g++[rest]).map V.str) (-1)=some (.str rest):=by
  rw[yK]
  exact Qrq _ _
 exists _,rfl,_,rfl,D,_,_,_,rfl,rfl,Qb S,ak,rfl,_,rfl,ite2 (fun y=>?_) (fun y=>?_)
 .exact⟨_,rfl,_,rfl,Z1 2,RET _ H5 (Same.refl _) (Qkv bk I u (.inr fun e=>nd_t y (congrArg V.str e)))⟩
 have am:rest="":=V.str.inj (nd_f y)
 clear y
 have ai:=Qgu I
 have aJ:B.flatMap (gW A)=[]:=Qvv ai fun w hw=>by
  rw[<-I.1]at hw
  obtain⟨c,hc,rfl⟩:=zK.mp hw
  obtain⟨l,k,h1,_⟩:=I.2.1 c hc
  exact hasW_iff.mpr ⟨_,_,_,h1⟩
 exists _,rfl,_,rfl,d,G,n,us,B,A,rfl,af,aa,bk,hP,ai,aJ,fun gp O L aI=>?_
 have aF:=L _ _ S
 have lp:(Qcn B A).length=(wks B).length:=by unfold Qcn;rw[jX]
 exists _,rfl,W,_,rfl,.inl (Qb (L _ _ U)),_,rfl,(((wks B).length:Nat):Int),(((wks B).length+(bns B).length:Nat):Int),by rw[lw],Om,Xy (lo:=(((wks B).length:Nat):Int)) (n:=((((wks B).length+(bns B).length:Nat):Int)-(((wks B).length:Nat):Int)).toNat) (fun j σ H7=>∃u6:Option V,σ=[some (.ref d),some (.str p),some (.ref D),some (.ref W),some (.ref T),some (.ref G),u6,u7,some (.int (((wks B).length+(bns B).length:Nat):Int)),some (.ref gp)]/\Qce n B g A j/\Same O H7) ⟨_,rfl,fun j b h=>Y21 h (kQd j),Same.refl _⟩ ?_ ?_
 .rintro j σ H7 hj ⟨u6,rfl,hE,s7⟩
  have hj:j<(bns B).length:=Om
  rw[show(((wks B).length:Nat):Int)+(j:Int)=(((wks B).length+j:Nat):Int)by lia]
  obtain⟨b,eb⟩:∃b,(bns B)[j]?=some b:=⟨_,gE hj⟩
  obtain⟨C,er,aD⟩:=u j b hj eb
  have ed:(Qgz n B A)[(wks B).length+j]?=some (ofL (lbL n (Vg B A b) b)):=by
   unfold Qgz
   rw[jJe (by rw[jX];lia),jX,lp,yQd,yZ,eb]
   rfl
  have rs:=Quk (fun d=>Qzl bk.wb (A:=A) b d) aD
  exists _,rfl,_,rfl,D,_,_,_,rfl,rfl,Qb (s7 _ _ aF),ao er,_,rfl,_,rfl,gp,_,_,_,rfl,rfl,Qb (s7 _ _ aI),ac ed,rfl,_,rfl,ite2 (fun y=>?_) (fun y=>?_)
  .refine⟨_,rfl,_,rfl,Z1 2,RET _ H7 (L.trans s7) (Qzk bk I u hl am eb hE fun e=>nd_t y (congrArg V.str ?_))⟩
   rw[er]at e
   exact rs.mpr (Y5 e)
  .refine⟨_,rfl,fun j' b' h' e'=>?_,s7⟩
   by_cases c:j'<j
   .exact hE j' b' c e'
   .obtain rfl:j'=j:=Om
    rw[eb]at e'
    cases e'
    rw[er,rs.mp (V.str.inj (nd_f y))]
    rfl
 rintro σ H7 ⟨u6,rfl,hE,s7⟩
 have hE:Qce n B g A (bns B).length:=by
  rw[show((((wks B).length+(bns B).length:Nat):Int)-(((wks B).length:Nat):Int)).toNat=(bns B).length by lia]at hE
  exact hE
 have Y:=L.trans s7
 exists _,rfl,_,rfl,d,G,n,us,B,A,rfl,Y _ _ af,aa.same Y,bk,PlanAt.same hP Y,ai,fun v H8 s8 ah=>⟨rfl,_,rfl,ite2 (fun y=>?_) (fun y=>?_)⟩
 .refine⟨_,rfl,_,rfl,Z1 2,RET _ H8 (Y.trans s8) (Qhb bk I u hl am hE (fun _=>rfl) fun e=>?_)⟩
  rw[e]at ah
  exact nd_t y ah
 .refine⟨_,rfl,Z1 2,fun t ht=>q t _ G A _ ((av.trans (Y.trans s8)).trans (Qd ht _)) (Xb Qc) (PlanAt.same hP ((Y.trans s8).trans (Qd ht _))) (.inr ⟨rfl,Qhb bk I u hl am hE (fun e=>?_) fun _=>rfl⟩)⟩
  have hv:v=.non:=nd_f y
  cases e2:dueF n B A with
  |none=>exact e e2
  |some ks=>
   rw[e2]at ah
   obtain⟨T',e3,_⟩:=ah
   rw[hv]at e3
   cases e3
abbrev sSpo:Stmt:=top 49
def PlT(x:Str)(m:Nat):Prop:=x.cps.all (· < 128)=true/\x.length<=m
def wtS(xs:List Str):Nat:=(xs.map fun t=>t.length+1).sum
theorem Qrd:∀{xs:List Str} {i:Nat} {x:Str} (y:Str),xs[i]?=some x->wtS (xs.set i y)+(x.length+1)=wtS xs+(y.length+1)
 |z::xs,0,x,y,h=>by
  have e:z=x:=Y5 h
  subst e
  show(y.length+1)+wtS xs+_=(z.length+1)+wtS xs+_
  lia
 |z::xs,i+1,x,y,h=>by
  have:=Qrd (xs:=xs) (i:=i) y h
  show(z.length+1)+wtS (xs.set i y)+_=(z.length+1)+wtS xs+_
  lia
theorem Qkw:∀(xs:List Str) (i:Nat),wtS (xs.eraseIdx i)<=wtS xs
 |[],_=>jJ _
 |z::xs,0=>by show wtS xs<=(z.length+1)+wtS xs;lia
 |z::xs,i+1=>by
  have:=Qkw xs i
  show(z.length+1)+wtS (xs.eraseIdx i)<=(z.length+1)+wtS xs
  lia
theorem Qvx(a b:List Str):wtS (a++b)=wtS a+wtS b:=by unfold wtS;rw[yK,List.sum_append]
theorem Qvy:∀{xs:List Str} {x:Str},x∈xs->x.length+1<=wtS xs
 |z::xs,x,h=>by
  show _<=(z.length+1)+wtS xs
  rcases kK.mp h with rfl | h
  .omega
  .have:=Qvy h;lia
theorem Qiv{c:Nat}:∀{xs:List Str},xs≠[]->(Str.join ⟨#[c]⟩ xs).length+1=wtS xs
 |[x],_=>by show x.length+1=(x.length+1)+0;lia
 |x::y::r,_=>by
  have:=Qiv (c:=c) (xs:=y::r) (kZe _ _)
  rw[<-Xl,Qyg,jZ,yQ,Xl,Xl]
  show _=(x.length+1)+wtS (y::r)
  lia
theorem Qre{xs:List Str}(h:wtS xs<=sizeLine):JoinOk nl10 xs=true:=by
 unfold JoinOk
 rw[StrLaws.joinTotal]
 have e:(xs.map (·.length)).sum+xs.length*(nl10).length=wtS xs:=by
  show _+_*1=_
  clear h
  induction xs with
  |nil=>rfl
  |cons x xs ih=>
   show(x.length+(xs.map (·.length)).sum)+(xs.length+1)*1=(x.length+1)+wtS xs
   lia
 show(!decide (_ > sizeLine))=true
 rw[xK Om]
 rfl
theorem Qdl{c:Nat}:∀{xs:List Str} {d:Nat},d∈sg (Str.join ⟨#[c]⟩ xs)->d=c\/∃x∈xs,d∈sg x
 |[],d,h=>nomatch h
 |[x],d,h=>.inr ⟨x,jY,h⟩
 |x::y::r,d,h=>by
  rw[Qyg]at h
  rcases kW.mp h with h | h
  .exact .inr ⟨x,jY,h⟩
  .rcases kK.mp h with h | h
   .exact .inl h
   .rcases Qdl h with h | ⟨z,a,h⟩
    .exact .inl h
    .exact .inr ⟨z,kJ _ a,h⟩
theorem Qul{xs:List Str}{m:Nat}(h:∀x∈xs,x.cps.all (· < 128)=true)(b:wtS xs<=m+1):PlT (Str.join nl10 xs) m:=by
 exists pln_iff.mpr fun d a=>?_,?_
 .rcases Qdl (c:=10) a with rfl | ⟨x,hx,h1⟩
  .decide
  .exact pln_iff.mp (h x hx) d h1
 .cases xs with
  |nil=>exact wJ _
  |cons x r=>
   have e:(Str.join nl10 (x::r)).length+1=wtS (x::r):=Qiv (kZe x r)
   lia
def spS:Str:="##..  0019ab\n"
theorem spS_at:∀k,k<13->((atI spS.cps.toList ((k:Nat):Int)).any (· < 128))=true:=Dk
theorem Qzm:spS.length=13:=Dk
inductive spSpo(k0:Fg)(vs:List V)(H:Hp)(Q:VK)(E:XK):Prop|mk(x:Str)(z:Int)(m:Nat)(_:vs=[.str x,.int z])(_:PlT x m)(_:m<=70000)(_:∀(y:Str) (H':Hp),Same H H'->PlT y (2*m+1)->Q (.str y) H'):spSpo k0 vs H Q E
theorem scSpo:FnScope ["_law_text","_law_number","_law_signs","_law_sign","_law_at","_law_way_here","_law_rows","_law_one","_law_other","_law_row"] ["_law_text","_law_number"] (Qh sSpo):=Sc
theorem okSpo(F:Fn K mg "_law_spoiled" sSpo)(M:Mg mg):Cal P w K mg base 1 "_law_spoiled" ["_law_text","_law_number"] (spSpo K):=by
 refine Xv F scSpo (a:=fun f al A ae s H vs Q E hr h=>?_)
 obtain⟨x,z,m,rfl,⟨hx,hl⟩,hm,q⟩:=h
 refine⟨_,(Qg (Z4 2 scSpo.nd Qq)
  (Qg (Z4 3 scSpo.nd (Qs Qcu (pv 2) (Qk Xf (Qk Xt (pv 1) Qe) (Qr Yo rfl M.len Xr (Qa (pv 2) Qf)))))
  (Qg (Z4 4 scSpo.nd (Qk Xf (Qk Xt (pv 1) Qe) (Qk Qy (Qr Yo rfl M.len Xr (Qa (pv 0) Qf)) Qe)))
  (Qg (Z4 5 scSpo.nd (Qk Xf (pv 1) Qe))
  (Qg (Xp (PW.pt (Zd (Ql Qam (pv 5) Qe (Qp _)) (Ys (Ql Qam (pv 4) (Qr Yo rfl M.len Xr (Qa (pv 0) Qf)) (Qp _))))) (Qi (Qx (Qk Qz (Qk Qz (Xc Zc (pv 0) Xn (Xe (pv 4))) (pv 3)) (Xc Zc (pv 0) (Xe (Qk Qy (pv 4) Qe)) Xn)))) Qv)
  (Qg (Xp (Ql Ye (pv 5) Qe (Qp _)) (Qi (Qx (Qk Qz (Qk Qz (Xc Zc (pv 0) Xn (Xe (pv 4))) (pv 3)) (Xc Zc (pv 0) (Xe (pv 4)) Xn)))) Qv)
  (Qg (Xp (Ql Ye (pv 5) Qe (Qp _)) (Qi (Qx (Qk Qz (Xc Zc (pv 0) Xn (Xe (pv 4))) (Xc Zc (pv 0) (Xe (Qk Qy (pv 4) Qe)) Xn)))) Qv)
  (Qg (Z4 6 scSpo.nd (Yt Y4 PySem.F.slot_str_split PySem.F.type_str_split Qel (pv 0) (Qa Qq Qf)))
  (Qg (Z4 7 scSpo.nd (Qk Xf (Qk Xt (pv 1) Qe) (Qr Qu rfl M.len Xr (Qa (pv 6) Qf))))
  (Qg (Z4 8 scSpo.nd (Qk Xf (Qk Xt (pv 1) Qe) (Qr Qu rfl M.len Xr (Qa (pv 6) Qf))))
  (Qg (Xp (Ql Ye (pv 5) Qe (Qp _)) (Qg (Z4 9 scSpo.nd (Qs Qn (pv 6) (pv 7)))
  (Qg (Qix (Qs Qn (pv 6) (pv 8)) (Qup (pv 6) (pv 7) set_list))
  (Qi (Qix (pv 9) (Qup (pv 6) (pv 8) set_list))))) Qv)
  (Qg (Xp (Ql Ye (pv 5) Qe (Qp _)) (Qi (Yj (Yt Y1 PySem.F.slot_list_pop PySem.F.type_list_pop Qrs (pv 6) (Qa (pv 7) Qf)))) Qv)
  (Qg (Xp (Ql Ye (pv 5) Qe (Qp _)) (Qi (Yj (Yt Y1 PySem.F.slot_list_insert PySem.F.type_list_insert Qnt (pv 6) (Qa (pv 8) (Qa (Qs Qn (pv 6) (pv 7)) Qf))))) Qv)
  (Qi (Qx (Yt Y4 PySem.F.slot_str_join PySem.F.type_str_join Qii Qq (Qa (pv 6) Qf))))))))))))))))),?_⟩
 refine Qon ?_
 intro ac X Z aj ak am ap ar af ao aq an au
 exists"z"
 have lx:x.length<=70000:=Om
 exists _,rfl,?_
 generalize hL:("##..  0019ab\n":Str)=v
 have lL:v.length=13:=by rw[<-hL];exact Qzm
 obtain⟨c,ec,hc⟩:∃c,atI v.cps.toList (z / 8 % (v.length:Int))=some c/\c<128:=by
  have h:=spS_at (z / 8 % 13).toNat Om
  rw[show(((z / 8 % 13).toNat:Nat):Int)=z / 8 % 13 by lia,show spS=v from hL]at h
  rw[lL]
  cases e:atI v.cps.toList (z / 8 % 13)with
  |none=>rw[e]at h;cases h
  |some c=>rw[e]at h;exists c,rfl,kZ h
 clear hL
 exists _,rfl,_,_,rfl,rfl,⟨Dc,Dc⟩,_,rfl,v,rfl,Om,_,_,rfl,rfl,(by show(0:Int)<_;lia),v,_,c,rfl,rfl,Om,ec,?_
 have k0:=jQc (z / 128) (show((x.length:Int)+1)≠0 by lia)
 have k1:=wQ (z / 128) (show(0:Int)<(x.length:Int)+1 by lia)
 obtain⟨k,hk⟩:∃k:Nat,z / 128 % ((x.length:Int)+1)=(k:Int):=⟨(z / 128 % ((x.length:Int)+1)).toNat,Om⟩
 have kl:k<=x.length:=Om
 clear k0 k1
 exists _,rfl,_,_,rfl,rfl,⟨Dc,Dc⟩,_,rfl,x,rfl,Om,_,_,rfl,rfl,_,_,rfl,rfl,(by show(0:Int)<(x.length:Int)+1;lia),?_
 rw[show V.int ((z / 128) % ((x.length:Int)+1))=V.int (k:Int)from congrArg V.int hk]
 clear hk
 exists _,rfl,_,_,rfl,rfl,(by show(0:Int)<8;decide),?_
 clear ec lL
 dsimp only
 generalize z % 8=wy
 have R:=Qtx x k
 have sl:∀j:Nat,(qf x (some (j:Int)) none).length=x.length-j:=fun j=>by rw[<-Xl,Qeo,jXb,Xl]
 have tl:(qf x none (some (k:Int))).length<=k:=by rw[<-Xl,R,zZ];lia
 have pl:=pln_iff.mp hx
 have pf:∀(j:Nat),∀d∈sg (qf x (some (j:Int)) none),d<128:=fun j d C=>by rw[Qeo]at C;exact pl d (kJa C)
 have pt:∀d∈sg (qf x none (some (k:Int))),d<128:=fun d C=>by rw[R]at C;exact pl d (yYf C)
 have ag:(qf x (some ((k:Int)+1)) none).length=x.length-(k+1):=sl (k+1)
 have N:∀d∈sg (qf x (some ((k:Int)+1)) none),d<128:=pf (k+1)
 have ai:=sl k
 have aa:=pf k
 clear pf sl R pl
 have l1:(⟨#[c]⟩:Str).length=1:=rfl
 have pc:∀d∈sg (⟨#[c]⟩:Str),d<128:=fun d C=>by rw[jV.mp C];exact hc
 have app:∀{a b:Str},(∀d∈sg a,d<128)->(∀d∈sg b,d<128)->∀d∈sg (a++b),d<128:=fun ha hb d C=>by
  rw[Yr]at C
  exact(kW.mp C).elim (ha d) (hb d)
 suffices REST:af { nx:=fun x S=>Q V.non S,rt:=Q } [some (.str x),some (.int z),some (.str v),some (.str ⟨#[c]⟩),some (.int (k:Int)),some (.int wy),none,none,none,none] H by
  exists _,rfl,_,_,rfl,rfl,_,rfl,ite2 (fun y=>?_) (fun y=>iteF REST)
  exists _,rfl,_,rfl,x,rfl,Om,_,_,rfl,rfl,_,rfl,ite2 (fun y2=>?_) (fun y2=>REST)
  exists _,rfl,_,rfl,_,rfl,x,rfl,Om,_,rfl,_,_,rfl,rfl,Om,_,rfl,_,rfl,_,_,rfl,rfl,_,rfl,x,rfl,Om,_,_,rfl,rfl,by rw[Xj];lia,q _ H (Same.refl _) ⟨pln_iff.mpr (app (app pt pc) N),?_⟩
  rw[Xj,Xj]
  lia
 exists _,rfl,rfl,_,rfl,ite2 (fun y=>?_) (fun y=>?_)
 .refine⟨_,rfl,_,rfl,_,rfl,x,rfl,Om,_,rfl,_,_,rfl,rfl,Om,_,rfl,_,rfl,_,rfl,x,rfl,Om,_,_,rfl,rfl,by rw[Xj];lia,q _ H (Same.refl _) ⟨pln_iff.mpr (app (app pt pc) aa),?_⟩⟩
  rw[Xj,Xj]
  lia
 clear y
 exists _,rfl,rfl,_,rfl,ite2 (fun y=>?_) (fun y=>?_)
 .refine⟨_,rfl,_,rfl,_,rfl,x,rfl,Om,_,rfl,_,rfl,_,_,rfl,rfl,_,rfl,x,rfl,Om,_,_,rfl,rfl,Om,q _ H (Same.refl _) ⟨pln_iff.mpr (app pt N),?_⟩⟩
  rw[Xj]
  lia
 clear y
 obtain⟨f1,f2⟩:=Wq (a:=x) (b:="\n") Om
 exists _,rfl,rfl,_,_,rfl,rfl,Dk,f1,f2,fun D Y=>?_
 rw[Qqj]
 have eJ:Str.join nl10 (Txt.split x nl10)=x:=StrLaws.join_split _ _
 have I:Txt.split x nl10≠[]:=Qki _ _
 have hw:wtS (Txt.split x nl10)<=m+1:=by
  have e:(Str.join nl10 (Txt.split x nl10)).length+1=wtS (Txt.split x nl10):=Qiv I
  rw[<-e,eJ]
  lia
 have T:∀t∈Txt.split x nl10,t.cps.all (· < 128)=true:=fun t G=>(Vh (x:=x) (c:=10) ⟨hx,Om⟩ t G).1
 have hn:(Txt.split x nl10).length<=x.length+2:=Qcd
 clear eJ f1 f2 pc aa ai N ag tl pt app l1 kl hl hx hc
 generalize Txt.split x nl10=o at hw T I hn⊢
 have N0:0<o.length:=List.length_pos_iff.mpr I
 have s1:=Qd Y (.lst (o.map V.str))
 have L:upd H D (.lst (o.map V.str)) D=some (.lst (o.map V.str)):=Qc
 generalize upd H D (.lst (o.map V.str))=H1 at s1 L⊢
 have ad:∀y:Int,∃i:Nat,y % ((o.map V.str).length:Int)=(i:Int)/\i<o.length:=fun y=>by
  rw[jX]
  have k0:=jQc y (show(o.length:Int)≠0 by lia)
  have k1:=wQ y (show(0:Int)<(o.length:Int)by lia)
  exists (y % (o.length:Int)).toNat,Om,Om
 have NV:(0:Int)<((o.map V.str).length:Int):=by rw[jX];lia
 obtain⟨i,ei,li⟩:=ad (z / 128)
 obtain⟨j,ej,lj⟩:=ad (z / 4096)
 exists _,rfl,_,_,rfl,rfl,⟨Dc,Dc⟩,_,rfl,D,_,rfl,.inl (Qb L),_,_,rfl,rfl,NV,?_
 rw[show V.int ((z / 128) % ((o.map V.str).length:Int))=V.int (i:Int)from congrArg V.int ei]
 exists _,rfl,_,_,rfl,rfl,⟨Dc,Dc⟩,_,rfl,D,_,rfl,.inl (Qb L),_,_,rfl,rfl,NV,?_
 rw[show V.int ((z / 4096) % ((o.map V.str).length:Int))=V.int (j:Int)from congrArg V.int ej]
 have O:∀{g:List Str} {k:Nat} {t:Str},g[k]?=some t->atI (g.map V.str) (k:Int)=some (V.str t):=fun h=>Jy (by rw[yZ,h];rfl)
 have U:∀{g:List Str} {k:Nat},k<g.length->ixN (g.map V.str).length (k:Int)=some k:=fun{g k} h=>by
  unfold ixN
  rw[jX,Y22 (Int.natCast_nonneg k),Y22 Om]
  rfl
 obtain⟨r1,e1⟩:∃t,o[i]?=some t:=⟨_,gE li⟩
 obtain⟨r2,e2⟩:∃t,o[j]?=some t:=⟨_,gE lj⟩
 suffices REST:∀(g:List Str) (u9:Option V) (p:Hp),(∀t∈g,t.cps.all (· < 128)=true)->wtS g<=m+1->g.length=o.length->p D=some (.lst (g.map V.str))->Same H p->Z { nx:=fun x S=>Q V.non S,rt:=Q } [some (.str x),some (.int z),some (.str v),some (.str ⟨#[c]⟩),some (.int (k:Int)),some (.int wy),some (.ref D),some (.int (i:Int)),some (.int (j:Int)),u9] p by
  exists _,rfl,rfl,_,rfl,ite2 (fun y=>?_) (fun y=>REST o _ H1 T hw rfl L s1)
  exists _,rfl,_,rfl,D,_,_,_,rfl,rfl,Qb L,O e1,?_
  exists _,rfl,_,rfl,D,_,_,_,rfl,rfl,Qb L,O e2,?_
  exists _,rfl,_,rfl,D,_,_,i,rfl,rfl,L,U li,?_
  rw[<-List.map_set]
  have ah:j<(o.set i r2).length:=by rw[yXc];exact lj
  exists _,rfl,_,rfl,_,rfl,D,_,_,j,rfl,rfl,Qc,U ah,?_
  rw[<-List.map_set]
  refine REST ((o.set i r2).set j r1) _ _ (fun t G=>?_) ?_ (by rw[yXc,yXc]) Qc (Yp (Yp s1 Y) Y)
  .rcases List.mem_or_eq_of_mem_set G with G | rfl
   .rcases List.mem_or_eq_of_mem_set G with G | rfl
    .exact T t G
    .exact T _ (kY e2)
   .exact T _ (kY e1)
  .have w1:=Qrd r2 e1
   have e3:(o.set i r2)[j]?=some r2:=by
    rw[List.getElem?_set]
    split
    .rfl
    .exact e2
   have w2:=Qrd r1 e3
   lia
 intro g u9 p l r B u J
 suffices REST:∀(g:List Str) (p:Hp),(∀t∈g,t.cps.all (· < 128)=true)->wtS g<=m+1->(wy=7->g.length=o.length)->p D=some (.lst (g.map V.str))->Same H p->X { nx:=fun x S=>Q V.non S,rt:=Q } [some (.str x),some (.int z),some (.str v),some (.str ⟨#[c]⟩),some (.int (k:Int)),some (.int wy),some (.ref D),some (.int (i:Int)),some (.int (j:Int)),u9] p by
  exists _,rfl,rfl,_,rfl,ite2 (fun y=>?_) (fun y=>REST g p l r (fun _=>B) u J)
  have y6:wy=6:=V.int.inj (kZ y)
  obtain⟨t,W⟩:∃t,g[i]?=some t:=⟨_,gE Om⟩
  have si:seqIndex? (i:Int) (g.map V.str).length=some i:=by
   unfold seqIndex?
   rw[jX]
   simp
   lia
  exists _,rfl,.inl ⟨rfl,_,Qb u⟩,_,rfl,D,_,(i:Int),i,.str t,rfl,rfl,u,Om,Om,si,by rw[yZ,W];rfl,?_
  have er:(g.map V.str).eraseIdx i=(g.eraseIdx i).map V.str:=by simp[List.eraseIdx_eq_take_drop_succ]
  rw[er]
  exact REST (g.eraseIdx i) _ (fun t G=>l t (List.mem_of_mem_eraseIdx G)) (wZ (Qkw _ _) r) (fun h=>Om) Qc (Yp J Y)
 clear l r B u J T hw I L s1
 intro g p l r B u J
 suffices REST:∀(g:List Str) (p:Hp),(∀t∈g,t.cps.all (· < 128)=true)->wtS g<=2*m+2->p D=some (.lst (g.map V.str))->Same H p->ac { nx:=fun x S=>Q V.non S,rt:=Q } [some (.str x),some (.int z),some (.str v),some (.str ⟨#[c]⟩),some (.int (k:Int)),some (.int wy),some (.ref D),some (.int (i:Int)),some (.int (j:Int)),u9] p by
  exists _,rfl,rfl,_,rfl,ite2 (fun y=>?_) (fun y=>REST g p l Om u J)
  have y7:wy=7:=V.int.inj (kZ y)
  have ln:=B y7
  obtain⟨t,W⟩:∃t,g[i]?=some t:=⟨_,gE Om⟩
  exists _,rfl,.inl ⟨rfl,_,Qb u⟩,_,rfl,_,rfl,_,rfl,D,_,_,_,rfl,rfl,Qb u,O W,D,_,(j:Int),.str t,rfl,rfl,u,Om,by rw[jX];lia,by rw[jX];lia,?_
  have er:insV (g.map V.str) ((j:Int)).toNat (V.str t)=(g.take j++t::g.drop j).map V.str:=by
   unfold insV
   simp
  rw[er]
  refine REST _ _ (fun a ha=>?_) ?_ Qc (Yp J Y)
  .rcases kW.mp ha with ha | ha
   .exact l a (yYf ha)
   .rcases kK.mp ha with rfl | ha
    .exact l _ (kY W)
    .exact l a (kJa ha)
  .have w1:=Qvy (kY W)
   have w2:=Qvx (g.take j) (g.drop j)
   rw[kZc]at w2
   rw[Qvx]
   show _+((t.length+1)+wtS (g.drop j))<=_
   lia
 clear l r B u J
 intro g p l r u J
 exists rfl,_,rfl,nl10,D,g,congrArg V.str Qqj,rfl,Qb u,Qre Om,?_
 rw[join_eq]
 exact q _ p J (Qul l Om)
abbrev sLCa:Stmt:=top 53
abbrev sLaw:Stmt:=top 54
theorem Qkx{k:Fin 3}{w t:Str}(h:(BR.use k w v t m).word="shut"):False:=by
 have a:=(Xx _ (k:=2) Dc).mp h
 match k,a with
 |0,a=>exact Y21 a (by show ¬((6:Nat)=2);decide)
 |1,a=>exact Y21 a (by show ¬((7:Nat)=2);decide)
 |2,a=>exact Y21 a (by show ¬((8:Nat)=2);decide)
theorem Qum(f:WB n B){k:Fin 3}{w t:Str}:Yv B k w v t<=99:=by
 have i:∀x∈B.filterMap (Zz k w v t),x<=99:=fun x b=>by
  obtain⟨r,g,e⟩:=xX.mp b
  have ok:=f.ok r g
  cases r with
  |use k' w' v' t' m=>
   have a:(if k'=k/\w'=w/\v'=v/\t'=t then some m else none)=some x:=e
   split at a
   .cases a;exact ok.2
   .cases a
  |_=>cases e
 have d:(B.filterMap (Zz k w v t)).Pairwise fun _ _=>False:=by
  rw[yQc]
  refine f.nd.imp fun{r q} h x b y hy=>?_
  have key:∀{r:BR} {x:Int},Zz k w v t r=some x->∃m,r=.use k w v t m:=fun{r x} e=>by
   cases r with
   |use k' w' v' t' m=>
    have a:(if k'=k/\w'=w/\v'=v/\t'=t then some m else none)=some x:=e
    split at a
    .next c=>obtain⟨rfl,rfl,rfl,rfl⟩:=c;exists m,rfl
    .cases a
   |_=>cases e
  obtain⟨m,rfl⟩:=key b
  obtain⟨j,rfl⟩:=key hy
  rcases h with h | h | h
  .exact Qkx h
  .exact Qkx h
  .exact h rfl
 unfold Yv
 cases e:B.filterMap (Zz k w v t)with
 |nil=>exact(by decide:(0:Int)<=99)
 |cons x l=>
  rw[e]at d
  cases l with
  |nil=>
   have:=i x (by rw[e];exact jY)
   show x+0<=99
   lia
  |cons y l=>exact((jYb.mp d).1 y jY).elim
theorem Qrf(b:WB n B)(h:PlanFor n B pl):pl.length<=5:=by
 obtain⟨c,f,e⟩:=b.few
 have:=Qxt (h.nd b) (m:=c) fun x d=>by
  have a:=(zV.mp (h.keys.mem_iff.mp d)).1
  exact e _ (wks_mem.mp a) x (by show x∈[x];exact jY)
 rw[jX]at this
 lia
theorem Qky{n:Int}{B:List BR}(a:WB n B)(b:Str)(d:Int):∀{pl:Z7} {m:Nat},pl.length<=m->0<=(pl.map (useR B b d)).sum/\(pl.map (useR B b d)).sum<=m*99
 |[],m,_=>⟨kYb _,by show(0:Int)<=_;lia⟩
 |x::pl,m+1,h=>by
  have e:=Qky a b d (pl:=pl) (m:=m) (by rw[yQ]at h;lia)
  have c:0<=useR B b d x/\useR B b d x<=99:=by
   unfold useR
   split
   .exact⟨(Qpt a).1,Qum a⟩
   .omega
  rw[zX,jZa]
  lia
theorem Qhc:∀B:List BR,(wks B).length+(bns B).length<=B.length
 |[]=>jJ _
 |r::B=>by
  have:=Qhc B
  have b:(wks (r::B)).length=(Zu r).toList.length+(wks B).length:=by unfold wks;rw[jQf];cases Zu r<;>simp<;>lia
  have c:(bns (r::B)).length=(Jj r).toList.length+(bns B).length:=by unfold bns;rw[jQf];cases Jj r<;>simp<;>lia
  have a:(Zu r).toList.length+(Jj r).toList.length<=1:=by cases r<;>simp[Zu,Jj]
  rw[yQ]
  lia
theorem Qrg{u:Nat->Int}(h:∀d,0<=u d/\u d<=495):∀l:List Nat,(l.flatMap fun d=>dgL (u d)).length<=6*l.length/\∀c∈l.flatMap (fun d=>dgL (u d)),c<128
 |[]=>⟨jJ _,fun c h=>nomatch h⟩
 |d::l=>by
  obtain⟨g,a⟩:=Qrg h l
  have f:=h d
  rw[jYf]
  exists ?_,fun c b=>?_
  .have e:(dgL (u d)).length<=6:=by
    unfold dgL
    simp only[jZ,yQ,kJb,wY]
    lia
   rw[jZ,yQ]
   lia
  .rcases kW.mp b with z | z
   .rcases kW.mp z with z | z
    .simp only[kK,List.not_mem_nil,or_false]at z
     lia
    .rw[List.eq_of_mem_replicate z];decide
   .exact a c z
theorem Qrh(bk:BookOk n B)(g:PlanFor n B pl)(j:B.flatMap (gW pl)=[]):∀x∈Qgz n B pl,(∀c∈sg x,c<128)/\x.length<=85:=by
 intro x q
 rcases kW.mp q with h | h
 .obtain⟨c,p,rfl⟩:=zK.mp h
  obtain⟨l,k,a,_⟩:=Qtw bk g j c p
  exists fun y e=>?_,wZ (wr_len bk a) Dc
  obtain⟨o,s⟩:=Jt bk a
  rcases kW.mp (show y∈padL c.1++sgnL n c.2.2 (endC B c)++32::sg c.2.1 from e)with z | z
  .rcases kW.mp z with z | z
   .exact(Qha o y z).2
   .unfold sgnL at z
    obtain⟨d,_,rfl⟩:=zK.mp z
    split<;>decide
  .rcases kK.mp z with rfl | z
   .decide
   .have:=s.2.2 y z;lia
 .obtain⟨b,m,rfl⟩:=zK.mp h
  have f:=Qaj bk m
  have r:=bk.n12
  obtain⟨a,i⟩:=Qrg (u:=fun d:Nat=>(pl.map (useR B b (d:Int))).sum) (fun d=>by
   have:=Qky bk.wb b (d:Int) (Qrf bk.wb g)
   lia) (List.range n.toNat)
  rw[wX]at a
  exists fun y e=>?_,?_
  .rcases kW.mp (show y∈padL b++_ from e)with z | z
   .exact(Qha f y z).2
   .exact i y z
  .rw[Qps]
   show(padL b++_).length<=_
   rw[jZ,Za f.2.1]
   exact wZ (xJ a 13) Om
theorem Qri{rows:List Str}(h:∀x∈rows,(∀c∈sg x,c<128)/\x.length<=85)(f:rows.length<=400):PlT (Qyk rows) 34400:=by
 have e:∀t∈rows.map (· ++ nlS),t.length<=86:=fun t b=>by
  obtain⟨u,d,rfl⟩:=zK.mp b
  have:=(h u d).2
  rw[Xj]
  show _+1<=_
  lia
 exists pln_iff.mpr fun c a=>?_,?_
 .unfold Qyk at a
  rw[Qah]at a
  obtain⟨t,b,a⟩:=jZc.mp a
  obtain⟨u,d,rfl⟩:=zK.mp b
  rw[Yr]at a
  rcases kW.mp a with z | z
  .exact(h u d).1 c z
  .rw[nlS_eq]at z
   rw[jV.mp z];decide
 .have:=Qbw e
  rw[jX]at this
  unfold Qyk
  lia
def bnd:Nat->Nat
 |0=>34400
 |1=>68801
 |_=>137603
theorem Qrj{g:Addr}{us:List V}{n:Nat}(o:H g=some (.lst us))(m:H d=some (.lst vs))(f:RowsB H us B)(e:RowsB H vs B):SmD K H (n+2) (.ref g) (.ref d):=by
 refine .lst (Qb o) (Qb m) (by rw[f.length,e.length]) fun i x y ex b=>?_
 obtain⟨r,l,h,rfl,p⟩:=f.get ex
 obtain⟨s,q,a,rfl,c⟩:=e.get b
 rw[h]at a
 cases a
 refine .lst (Qb p) (Qb c) rfl fun j x y ex b=>?_
 rw[ex]at b
 cases b
 rw[yZ]at ex
 obtain⟨k,_,rfl⟩:=jZe.mp ex
 exact .flat (Qad k)
theorem Qfa:bootBuiltins "ValueError"=some (.type "ValueError"):=Dk
structure EXk(K:Fg)(mg:Z9)(C D CB CN CS:Addr):Prop where
 pe:mg "PlanError"=some (.ref D)
 isA:IsA K C D
 nb:mg "NoBook"=some (.ref CB)
 nn:mg "NoNumber"=some (.ref CN)
 ns:mg "NoStep"=some (.ref CS)
 np:mg "NoPicture"=some (.ref C)
 xi:ExcIn K C
 xf:ExcFld K C "row"
 ka:PySem.W.kitAny K (.ref C) [.ref CB,.ref CN,.ref CS]=some false
 ko:PySem.W.kitOne K (.ref C) (.ref C)=some true
 kn:PySem.W.kitAny K (.type "NoneType") [.ref CB,.ref CN,.ref CS]=some false
 kv:PySem.W.kitOne K (.ref C) (.type "ValueError")=some true
def RC(C:Addr)(H:Hp)(z:Int)(Q:VK):Prop:=∀e dx H',Same H H'->H' e=some (excD e C dx)->H' dx=some (.xd [("row",.int z)])->Q (.ref e) H'
inductive spLCa(C:Addr)(vs:List V)(H:Hp)(Q:VK)(E:XK):Prop|mk(d:Addr)(text:Str)(n:Int)(us:List V)(B:List BR)(Ls:List Str)(rest:Str)(_:vs=[.ref d,.str text])(_:H d=some (.lst us))(_:RowsB H us B)(_:BookOk n B)(_:Pln text)(_:Txt.split text nl10=Ls++[rest])(_:SeenK n B Ls rest (fun z=>RC C H z Q) fun _=>∀H',Same H H'->Q .non H'):spLCa C vs H Q E
theorem scLCa:FnScope ["_law_book_here","_law_text","_law_caught_here","e"] ["_law_book_here","_law_text"] (Qh sLCa):=Sc
theorem okLCa(t:EXk K mg CX DX CB CN CS)(F:Fn K mg "_law_caught" sLCa)(M:Mg mg)(a:CalG P w K mg base CX 6 "plan_seen" ["book","text"] (Qqo K CX)):Cal P w K mg base 7 "_law_caught" ["_law_book_here","_law_text"] (spLCa CX):=by
 refine Xv F scLCa (a:=fun f G A l s H L Q E Z h=>?_)
 obtain⟨d,b,n,u,B,v,c,rfl,N,J,bk,pt,O,R⟩:=h
 obtain⟨fR,W,X,C,kR,S⟩:=a.ex
 refine⟨_,(Qg (Z4 2 scLCa.nd Jk)
  (Qg (Qqc rfl rfl rfl X (Z.mono Dc) C kR S t.pe t.isA scLCa.nd (Qa (pv 0) (Qa (pv 1) Qf)) (i:=2) (j:=3) rfl rfl Dc rfl rfl)
  (Qi (Qx (pv 2))))),?_⟩
 refine Qea ?_
 intro q T
 have key:∀z,RC CX H z Q->RE CX H z (fun _ D r=>∀e k,D=some k->r e=none->q { nx:=fun x p=>Q V.non p,rt:=Q } [some (.ref d),some (.str b),some (.ref e),none] (upd r e (excD e CX k))):=by
  rintro z hz k r Y o e I m U
  cases m
  have y:=Qd U (excD e CX k)
  exists _,rfl,hz e k _ (Y.trans y) Qc (y _ _ o)
 exists _,rfl,_,rfl,d,b,n,u,B,v,c,rfl,N,J,bk,pt,O,R.imp (fun z h=>key z h) fun A h g p s' _ _=>⟨_,rfl,h p s'⟩
theorem scLaw:FnScope ["_law_script","_law_book_here","_law_plan_here","_law_text","_law_k","_law_due_here","_law_told","_law_handed","_law_caught_here"] ["_law_script"] (Qh sLaw):=Sc
theorem okLaw{fI:Addr}(NP:NPk P w K mg base CX DX fI fdI fo)(X:EXk K mg CX DX CB CN CS)(F:Fun K "law" "law" sLaw f fd)(M:Mg mg)(ae:Cal P w K mg base 5 "_law_book" ["_law_script"] (Qvb K))(C:Cal P w K mg base 2 "_law_all_done" ["_law_book_here"] (Qvq K))(ad:Cal P w K mg base 3 "_law_plan" ["_law_script","_law_start","_law_book_here"] (Qvd K))(d:Cal P w K mg base 2 "_law_mixed" ["_law_script","_law_k"] (Kb K))(Z:Cal P w K mg base 6 "_law_eased" ["_law_book_here","_law_plan_here"] (Qqz K))(R:Cal P w K mg base 3 "_law_picture" ["_law_book_here","_law_plan_here"] (Qra K))(L:Cal P w K mg base 1 "_law_spoiled" ["_law_text","_law_number"] (spSpo K))(al:Cal P w K mg base 6 "_law_due" ["_law_book_here","_law_text"] (spLDu K))(T:Cal P w K mg base 7 "_law_caught" ["_law_book_here","_law_text"] (spLCa CX))(G:Cal P w K mg base 6 "plan_seen" ["book","text"] (fun vs H Q _=>(Qqo K CX) vs H Q fun _ _ _=>False))(Y:Cal P w K mg base 1 "_law_whole" ["_law_found"] (Qnu)):FnOk P w K mg base CX0 8 f fd ["_law_script"] (Qsc K):=by
 refine F.ok scLaw (a:=fun a2 A aM s H vs Q E I h=>?_)
 obtain⟨a,ns,rfl,hS,a4,q⟩:=h
 have ax:=Z6 6 I.un
 have hu:=Z6 1 I.un
 refine⟨_,(Qg (Z4 1 scLaw.nd (Xk C (I.mono Dc) (Qa (Xk ae (I.mono Dc) (Qa (pv 0) Qf)) Qf)))
  (Qg (Z4 2 scLaw.nd (Xk ad (I.mono Dc) (Qa (pv 0) (Qa Qe (Qa (pv 1) Qf)))))
  (Qg (Xp (Ql Qcj (Qk Xf (Xk d (I.mono Dc) (Qa (pv 0) (Qa Qe Qf))) Qe) Qe (Qp _)) (Qi (Z4 1 scLaw.nd (Xk Z (I.mono Dc) (Qa (pv 1) (Qa (pv 2) Qf))))) Qv)
  (Qg (Z4 3 scLaw.nd (Yt Y4 PySem.F.slot_str_join PySem.F.type_str_join Qii Qq (Qa (Yh ["_law_row"] [none] rfl (Xd (Xk R (I.mono Dc) (Qa (pv 1) (Qa (pv 2) Qf)))) (fun _ _ _=>(Z3 0 Z2)) (fun _ _ _=>Zg) (fun _ _ _=>(Qk Qz (pv 0) Qq))) Qf)))
  (Qg (Yb Y33 rfl (Xs rfl M.range_ (Qa (Qk Xf (Xk d (I.mono Dc) (Qa (pv 0) (Qa Qe Qf))) Qe) Qf)) (Z3 4 scLaw.nd) (Qi (Z4 3 scLaw.nd (Xk L (I.mono Dc) (Qa (pv 3) (Qa (Xk d (I.mono Dc) (Qa (pv 0) (Qa (Qk Qy Qe (pv 4)) Qf))) Qf))))))
  (Qg (Qix (Xk al (I.mono Dc) (Qa (pv 1) (Qa (pv 3) Qf))) (Wc (K:=K) (i:=5) (j:=6) rfl rfl scLaw.nd rfl rfl rfl rfl))
  (Qg (Zv (i:=7) ["_law_row"] [none] rfl scLaw.nd rfl (inl rfl) (Xd (pv 1)) (fun _ _ _=>(Z3 0 Z2)) (fun _ _ _=>Zg) (fun _ _ _=>(Yg (Vt (K:=K) rfl) rfl M.list_ Qhl (Qa (pv 0) Qf))))
  (Qg (Z4 8 scLaw.nd (Xk T (I.mono Dc) (Qa (pv 7) (Qa (pv 3) Qf))))
  (Qg (Xp (PW.pt (Wy (Ql (Qxv (n:=6) ax) (pv 7) (pv 1) (Qp _)) (Kq (Jz (Qr (CallR.or Qca Qqf) rfl M.isinstance Ya (Qa (pv 8) (Qa (Yf (Qa (Jf (v:=.ref CB) rfl X.nb rfl) (Qa (Jf (v:=.ref CN) rfl X.nn rfl) (Qa (Jf (v:=.ref CS) rfl X.ns rfl) Qf)))) Qf))))))) (Qi (Qx Qmn)) Qv)
  (Qg (Xp (Ql Qiz (pv 5) Jk (Qp _)) (Qi (Qx (Vk (Jg Qiz (pv 8) Jk (Qp _)) (Ws (Jg (Qyf (K:=K) (n:=6) rfl Dc ax) (Xk G (I.mono Dc) (Qa (pv 7) (Qa (pv 3) Qf))) (pv 6) (Qp _)))))) Qv)
  (Qg (Xp (PW.pt (Wy (Vj (Jz (Qr Qca rfl M.isinstance Ya (Qa (pv 8) (Qa (Jf (v:=.ref CX) rfl X.np rfl) Qf))))) (Kq (Vj (Jz (Qr Qca rfl M.isinstance Ya (Qa (pv 8) (Qa (Qhk M.ValueError_ Qfa) Qf)))))))) (Qi (Qx Qmn)) Qv)
  (Qi (Qx (Vk (Xk Y (I.mono Dc) (Qa (Qqd (pv 8) rfl) Qf)) (Vk (Jg Ye (Qqd (pv 8) rfl) (pv 5) (Qp _)) (Ws (Jg Ye (Qzh (Qzg NP.ei NP.gi NP.bi NP.lk NP.fc NP.kc (I.mono Dc) (Qa (Qk Qy (pv 5) Qe) Qf)) rfl) (Qk Qy (pv 5) Qe) (Qp _)))))))))))))))))),?_⟩
 refine Qfy ?_
 intro aZ a0 a1 a6 ba bb a5 a9 aX a7 a8
 exists"z"
 exists _,rfl,a,ns,rfl,hS,fun g0 aS n B0 H1 s1 aJ aH au=>?_
 have aK:=au.wb.len
 exists g0,aS,B0,rfl,aJ,aH,aK,fun g1 aw H2 s2 ak ah=>?_
 have ai:=Qyz au
 have ap:AllW (Qmi B0):=fun w hw=>hasW_iff.mpr (Qud (wks_mem.mp hw))
 have aD:=s1.trans s2
 exists _,rfl,_,rfl,a,g1,ns,300,n,aw,_,rfl,aD.seq hS,Dc,Dc,ak,ah,ai,fun Pp pl H3 s3 fP hP ag=>?_
 have ao:=aD.trans s3
 suffices REST:∀(g:Addr) (ys:List V) (B:List BR) (H4:Hp),Same H H4->H4 g=some (.lst ys)->RowsB H4 ys B->BookOk n B->PlanAt K H4 Pp pl->PlanFor n B pl->AllW B->aX { nx:=fun x H'=>Q V.non H',rt:=Q } [some (.ref a),some (.ref g),some (.ref Pp),none,none,none,none,none,none] H4 by
  exists _,rfl,a,ns,5,rfl,ao.seq hS,Dc,Dc,fun z z0 z1=>?_
  exists _,_,rfl,rfl,Z0,_,_,rfl,rfl,_,rfl,ite2 (fun y=>?_) (fun y=>REST g1 aw _ H3 ao (s3 _ _ ak) (ah.same s3) ai hP ag ap)
  exists _,rfl,_,rfl,g1,Pp,n,aw,_,pl,rfl,s3 _ _ ak,ah.same s3,ai,hP,ag,ap,fun g ys B H4 s4 hg hB bk aa hA=>REST g ys B H4 (ao.trans s4) hg hB bk (PlanAt.same hP s4) aa hA
 intro g ys B H4 s4 hg hB bk aI aa hA
 clear ap ai hP ag ah ak aH aJ au aK
 have hW:=Qvv aa hA
 have W:=Qrh bk aa hW
 have bl:=bk.wb.len
 have kf:=Qhc B
 have lP:(Qgz n B pl).length=(wks B).length+(bns B).length:=by
  unfold Qgz Qcn
  rw[jZ,jX,jX,jX]
 exists rfl,_,rfl,_,rfl,g,Pp,n,ys,B,pl,rfl,hg,hB,bk,aI,aa,hW,fun gp H5 s5 av=>?_
 exists gp,rfl,⟨_,Qb av⟩,fun D3 aO=>?_
 refine Wo V.str (fun t:Str=>t++nlS) rfl (Ke (val:=V.str) (Qb av)) Om aO (fun t ht an U P h=>?_) fun H6 s6 h6=>?_
 .exact⟨_,rfl,_,_,rfl,rfl,by have:=(W t ht).2;show _+1<=_;lia,h an (Same.refl _)⟩
 exists _,D3,_,rfl,rfl,Qb h6,joinOk_of (b:=86) (fun t ht=>?_) (by rw[jX];show _*86<=_;lia),?_
 .obtain⟨u,aW,rfl⟩:=zK.mp ht
  have:=(W u aW).2
  rw[Xj]
  show _+1<=_
  lia
 rw[join_eq]
 have aq:PlT (Str.join "" ((Qgz n B pl).map fun t=>t++nlS)) 34400:=Qri W Om
 generalize Str.join "" ((Qgz n B pl).map fun t=>t++nlS)=tx0 at aq⊢
 have ar:=s5.trans s6
 exists _,rfl,a,ns,4,rfl,(s4.trans ar).seq hS,Dc,Dc,fun z z0 _=>?_
 let aC:Nat->St->Hp->Prop:=fun i σ H7=>∃(x:Str) (u4:Option V),σ=[some (.ref a),some (.ref g),some (.ref Pp),some (.str x),u4,none,none,none,none]/\PlT x (bnd i)/\Same H4 H7
 exists _,_,rfl,rfl,Z0,z % 3,rfl,Om,Om,Xy (lo:=0) (n:=(z % 3).toNat) aC ⟨_,none,rfl,aq,ar⟩ ?_ ?_
 .rintro i σ H7 hi ⟨x,u4,rfl,px,s7⟩
  exists _,rfl,_,rfl,_,rfl,_,_,rfl,rfl,a,ns,320+(0+(i:Int)),rfl,(s4.trans s7).seq hS,Om,Om,fun y y0 _=>?_
  have ay:i=0\/i=1:=Om
  exists x,y,bnd i,rfl,px,by rcases ay with rfl | rfl<;>decide,fun t H8 s8 pt=>⟨t,_,rfl,?_,s7.trans s8⟩
  rcases ay with rfl | rfl<;>exact pt
 rintro σ H7 ⟨S,u4,rfl,px,s7⟩
 have pt:Pln S:=⟨px.1,wZ px.2 (by
  generalize (z % 3).toNat=k
  unfold bnd
  split<;>decide)⟩
 obtain⟨Ls,J,eL⟩:∃Ls J,Txt.split S nl10=Ls++[J]:=⟨_,_,(List.dropLast_concat_getLast (Qki _ _)).symm⟩
 exists _,rfl,_,rfl,g,S,n,ys,B,Ls,J,rfl,s7 _ _ hg,hB.same s7,bk,pt,eL,fun t v gt A H8 s8 ht aY aT=>?_
 exists t,_,rfl,ht,rfl,_,_,rfl,_,_,rfl,rfl,?_
 have aE:=s7.trans s8
 have aj:=aE _ _ hg
 have aF:=hB.same aE
 have lu:=hB.length
 clear av h6 aq W ar s7 aI
 exists _,rfl,g,rfl,⟨_,Qb aj⟩,fun D hD=>?_
 let aL:Nat->St->List V->Hp->Prop:=fun m τ ab H6=>∃v:Option V,τ=[v]/\RowsB H6 ab (B.take m)/\ab.length<=m/\H6 D=some (.lst ab)/\Same H8 H6
 refine Z5 ys (show _=B.length from Om) aL ?_ (fun m τ ab H6 hm h=>?_) ?_ ?_
 .exact⟨none,rfl,.nil,jJ _,Qc,Qd hD _⟩
 .obtain⟨v,rfl,hY,hl,hE,s6⟩:=h
  exists ⟨hE,Om⟩,s6.seq (Qb aj)
 .rintro m τ ab H6 x H7 hm ⟨v,rfl,hY,hl,hE,s6⟩ ⟨rfl,e1⟩
  obtain⟨r,lr,er,rfl,I⟩:=(aF.same s6).get (e1 _ (s6.seq (Qb aj)))
  exists _,rfl,lr,_,rfl,.inl (Qb I),fun l6 aV=>?_
  have s7:=Qd aV (.lst (r.cells.map kV))
  have aG:=s7 _ _ hE
  exists aG,_,rfl,?_,by rw[jZ];exact wW hl,Qc,fun b o e=>?_
  .rw[Jn er]
   exact((hY.same s7).snoc Qc).updL aG hY.noRow
  .rw[Qj (Qm e hD)];exact s7 _ _ (s6 _ _ e)
 rintro τ yD H9 ⟨v9,rfl,hY,hl,hE,s9⟩
 rw[yW]at hY
 have aB:∀(H5:Hp) (p:Addr),H5 p=none->upd H5 p (.tup [.ref CB,.ref CN,.ref CS]) p=some (.tup ([CB,CN,CS].map V.ref)):=fun H5 p hp=>Qc
 have az:=s9 _ _ aj
 have aA:=aF.same s9
 exists _,rfl,_,rfl,D,S,n,yD,B,Ls,J,rfl,hE,hY,bk,pt,eL,?_
 rcases aT with⟨z',rfl,SK⟩ | ⟨rfl,SK⟩
 .refine SK.imp (fun y ey=>?_) fun A h=>h.elim
  subst ey
  rintro e dx ac l he aU
  exists _,rfl,_,rfl,D,g,rfl,rfl,Qrj (n:=4) (l _ _ hE) (l _ _ az) (hY.same l) (aA.same l),_,rfl,iteF ?_
  exists _,rfl,Z1 3,fun p hp=>?_
  have U:=Qd hp (.tup [.ref CB,.ref CN,.ref CS])
  have O:=aB ac p hp
  generalize upd ac p (.tup [.ref CB,.ref CN,.ref CS])=an at U O⊢
  have N:=U _ _ he
  have am:=U _ _ aU
  refine .inl ⟨e,CX,dx,N,X.xi,.inr (.inr ⟨p,[CB,CN,CS],false,rfl,O,X.ka,?_⟩)⟩
  exists false,rfl,iteF ?_
  exists _,rfl,rfl,_,rfl,iteF ?_
  exists _,rfl,e,CX,dx,N,X.xi,.inl ⟨CX,true,rfl,X.ko,?_⟩
  exists true,rfl,iteF ?_
  exists _,rfl,e,CX,dx,N,X.xi,.inr (.inl ⟨"ValueError",true,rfl,X.kv,?_⟩)
  exists true,rfl,iteF ?_
  exists _,rfl,e,CX,dx,_,.int (z':Int),rfl,N,am,X.xf,rfl,_,rfl,true,rfl,iteT ?_
  exists _,rfl,e,CX,dx,_,.int (z':Int),rfl,N,am,X.xf,rfl,_,rfl,rfl,_,rfl,ite2 (fun _=>?_) (fun c=>Y21 (yX rfl) c)
  exists _,rfl,_,_,rfl,rfl,_,rfl,fun e9 aN h1 h2 h3=>?_
  exists e9,CX,aN,_,.int ((z':Int)+1),rfl,by rw[Qj h3];exact Qc,Qc,X.xf,rfl,_,rfl,_,_,rfl,rfl,rfl,?_
  rw[yX rfl]
  exact q _
 .refine SK.imp (fun y h=>h.elim) fun A' eA ac l=>?_
  exists _,rfl,_,rfl,D,g,rfl,rfl,Qrj (n:=4) (l _ _ hE) (l _ _ az) (hY.same l) (aA.same l),_,rfl,iteF ?_
  exists _,rfl,Z1 3,fun p hp=>?_
  have U:=Qd hp (.tup [.ref CB,.ref CN,.ref CS])
  have O:=aB ac p hp
  generalize upd ac p (.tup [.ref CB,.ref CN,.ref CS])=an at U O⊢
  refine .inr ⟨p,[CB,CN,CS],false,rfl,O,X.kn,?_⟩
  exists false,rfl,iteF ?_
  exists _,rfl,rfl,_,rfl,iteT ?_
  exists _,rfl,rfl,_,rfl,iteT ?_
  have af:=l.trans U
  exists _,rfl,_,rfl,D,S,n,yD,B,Ls,J,rfl,af _ _ hE,hY.same af,bk,pt,eL,SK.imp (fun z h=>h.elim) fun A2 aQ gF a3 aP _ aR=>?_
  subst aQ
  exists _,rfl,gF,gt,_,_,rfl,rfl,aR,PlanAt.same aY (s9.trans (af.trans aP)),.refl _,q _
end
theorem ve_row:typeLookup (.type "ValueError") "row"=pure none:=by rw[PySem.typeLookup_type,PySem.builtinLookup_eq_fast];kernel_rfl
def htop(i:Nat):Stmt:=PySem.Challenge.pw_nonebetter_k96_no_pictures.main.body.getD i (.Pass ⟨0,0,0,0⟩)
abbrev fO(a b:Str)(s:Stmt)(k:Addr)(v:Value)(r:Addr):Obj:=.mk (.type "function") none (.func (.mk a b (L2.Xa s) (.stmts (L2.Qw s)) (L2.Qh s) k [] .none .none .none v none (.ref r) .none 0)) #[]
abbrev cO(a:Str)(i:Tok)(b:Str)(j k:Tok)(l m n o p:Int)(u r:Addr)(v1 v2 v3 v4:Value)(x y:Int)(z:Tok):Obj:=.mk (.type "code") none (.fields #[.str a i,.str b j,.str "/claim/cut.py" k,.int l 0,.int m 0,.int n 0,.int o 0,.int p 0,.ref u,.bool Bool.true,.int 181 0,.ref r,v1,v2,v3,v4,.int x 0,.int y 0,.str "/claim/cut.py" z]) #[]
abbrev tO(v:Array Value):Obj:=.mk (.type "tuple") none (.seq v) #[]
abbrev kO(P:Params)(x:Str)(i:Tok)(v:Value):DictEntry:=.mk (PyData.keyHash P x) (.str x i) v
local macro_rules|`(term|q3 $i $x)=>`(term|$x)|`(term|q3 $i $n:num $x $b*)=>`(term|bif beq $i $n then $x else q3 $i $b*)
local macro_rules|`(term|q4 $a $n $m)=>`(term|fO $a $a (htop $n) 3 (.str "law_nonebetter_k96_no_pictures" 553) $m)
local macro_rules|`(term|q5 $a $n $m $b*)=>`(term|cO $a $n $a $m $b*)
def hob0(i:Nat)(P:Params):Obj:=q3 i 2 (.mk .none none (.dict #[]) #[]) 3 (.mk (.type "dict") none (.dict #[kO P "__name__" 165 (.str "law_nonebetter_k96_no_pictures" 553),kO P "__doc__" 166 .none,kO P "__package__" 167 .none,kO P "__loader__" 168 (.builtin "__main__.__loader__#opaque"),kO P "__spec__" 169 .none,kO P "__annotations__" 170 (.ref 6),kO P "__builtins__" 171 (.ref 4),kO P "__file__" 173 (.str "/claim/cut.py" 172),kO P "__cached__" 174 .none,kO P "_wall" 193 (.ref 21),kO P "PlanError" 213 (.ref 31),kO P "NoNumber" 229 (.ref 44),kO P "NoStep" 245 (.ref 56),kO P "NoPicture" 270 (.ref 75),kO P "NoBook" 295 (.ref 94),kO P "is_whole" 304 (.ref 103),kO P "is_pair" 311 (.ref 110),kO P "NAMES" 347 (.ref 111),kO P "said_by" 354 (.ref 118),kO P "Facts" 466 (.ref 192),kO P "choices_taken" 474 (.ref 201),kO P "is_as_told" 483 (.ref 208),kO P "wrong_works" 489 (.ref 213),kO P "wrong_rooms" 495 (.ref 218),kO P "wrong_stores" 501 (.ref 223),kO P "wrong_afters" 507 (.ref 228),kO P "broken" 518 (.ref 235),kO P "WIDTH" 522 (.int 13 521),kO P "work_row" 528 (.ref 240),kO P "bench_row" 534 (.ref 245),kO P "is_bench_row" 540 (.ref 250),kO P "choices_seen" 546 (.ref 255),kO P "plan_seen" 552 (.ref 260),kO P "_law_cell_at" 562 (.ref 267),kO P "_law_whole" 569 (.ref 274),kO P "_law_block" 579 (.ref 281),kO P "_law_mixed" 589 (.ref 288),kO P "_law_name" 601 (.ref 295),kO P "_law_things" 617 (.ref 302),kO P "_law_way" 634 (.ref 309),kO P "_law_works" 652 (.ref 316),kO P "_law_put" 664 (.ref 323),kO P "_law_book" 677 (.ref 330),kO P "_law_ways" 683 (.ref 335),kO P "_law_plan" 689 (.ref 340),kO P "_law_length" 695 (.ref 345),kO P "_law_many" 701 (.ref 350),kO P "_law_all_done" 707 (.ref 355),kO P "_law_eased" 713 (.ref 360),kO P "_law_picture" 719 (.ref 365),kO P "_law_used" 732 (.ref 372),kO P "_law_spoiled" 748 (.ref 379),kO P "_law_seen" 763 (.ref 386),kO P "_law_bench_row" 769 (.ref 391),kO P "_law_due" 775 (.ref 396),kO P "_law_caught" 785 (.ref 403),kO P "law" 791 (.ref 408)] 57) #[]) 15 (tO #[]) 17 (tO #[.str "k" 190]) (tO #[])
def hob1(i:Nat)(P:Params):Obj:=q3 i 20 (q5 "_wall" 187 188 189 1 1 0 0 3 15 16 .none (.ref 17) (.ref 18) (.ref 19) 191 1 192) 21 (fO "_wall" "_wall" (htop 0) 3 (.str "__main__" 164) 20) 22 (tO #[.type "ValueError"]) 29 (tO #[]) (.mk (.type "dict") none (.dict #[kO P "__module__" 203 (.str "nonebetter.errors" 194),kO P "__firstlineno__" 207 (.int 5 206),kO P "__static_attributes__" 208 (.ref 29),kO P "__weakref__" 210 (.ref 32),kO P "__doc__" 211 .none] 3) #[])
def hob2(i:Nat)(P:Params):Obj:=q3 i 31 (.mk (.type "type") none (.cls (ClassData.mk "PlanError" [.type "ValueError"] [.ref 31,.type "ValueError",.type "Exception",.type "BaseException",.type "object"] 30 "PlanError" Bool.true [] [.ref 44,.ref 56,.ref 75,.ref 94] Bool.false none Bool.false)) #[Option.some (.ref 22),none,Option.some (.str "PlanError" 196),Option.some (.str "PlanError" 204),Option.some (.builtin "ValueError.__new__"),Option.some (.bool Bool.true)]) 32 (.mk (.type "getset_descriptor") none (.fields #[.str "__weakref__" 209,.ref 31,.builtin "ExceptionGroup.__weakref__",.none]) #[]) 35 (tO #[.ref 31]) 42 (tO #[]) (.mk (.type "dict") none (.dict #[kO P "__module__" 221 (.str "nonebetter.errors" 194),kO P "__firstlineno__" 225 (.int 7 224),kO P "__static_attributes__" 226 (.ref 42),kO P "__doc__" 227 .none] 2) #[])
def hob3(i:Nat)(P:Params):Obj:=q3 i 44 (.mk (.type "type") none (.cls (ClassData.mk "NoNumber" [.ref 31] [.ref 44,.ref 31,.type "ValueError",.type "Exception",.type "BaseException",.type "object"] 43 "NoNumber" Bool.true [] [] Bool.false none Bool.false)) #[Option.some (.ref 35),none,Option.some (.str "NoNumber" 214),Option.some (.str "NoNumber" 222),Option.some (.builtin "ValueError.__new__"),Option.some (.bool Bool.true)]) 47 (tO #[.ref 31]) 54 (tO #[]) 55 (.mk (.type "dict") none (.dict #[kO P "__module__" 237 (.str "nonebetter.errors" 194),kO P "__firstlineno__" 241 (.int 9 240),kO P "__static_attributes__" 242 (.ref 54),kO P "__doc__" 243 .none] 2) #[]) (.mk (.type "type") none (.cls (ClassData.mk "NoStep" [.ref 31] [.ref 56,.ref 31,.type "ValueError",.type "Exception",.type "BaseException",.type "object"] 55 "NoStep" Bool.true [] [] Bool.false none Bool.false)) #[Option.some (.ref 47),none,Option.some (.str "NoStep" 230),Option.some (.str "NoStep" 238),Option.some (.builtin "ValueError.__new__"),Option.some (.bool Bool.true)])
def hob4(i:Nat)(P:Params):Obj:=q3 i 59 (tO #[.ref 31]) 66 (tO #[]) 68 (tO #[.str "self" 261,.str "row" 262]) 69 (tO #[]) (cO "__init__" 258 "NoPicture.__init__" 259 260 13 2 0 0 3 66 67 .none (.ref 68) (.ref 69) (.ref 70) 263 13 264)
def hob5(i:Nat)(P:Params):Obj:=q3 i 72 (.mk (.type "function") none (.func (.mk "__init__" "NoPicture.__init__" (Arguments.mk [] [Arg.mk "self" none (Pos.mk 13 17 13 21),Arg.mk "row" none (Pos.mk 13 23 13 26)] none [] [] none []) (.stmts [Stmt.Assign [Expr.Attribute (Expr.Name "self" (Pos.mk 14 8 14 12)) "row" (Pos.mk 14 8 14 16)] (Expr.Name "row" (Pos.mk 14 19 14 22)) (Pos.mk 14 8 14 22)]) (Scope.mk ScopeKind.function [(Str.ofString "self",NameKind.local),(Str.ofString "row",NameKind.local)] Bool.false Bool.false []) 3 [] .none .none .none (.str "nonebetter.errors" 194) none (.ref 71) .none 0)) #[]) 73 (tO #[.str "row" 266]) 74 (.mk (.type "dict") none (.dict #[kO P "__module__" 253 (.str "nonebetter.errors" 194),kO P "__firstlineno__" 257 (.int 11 256),kO P "__init__" 265 (.ref 72),kO P "__static_attributes__" 267 (.ref 73),kO P "__doc__" 268 .none] 2) #[]) 75 (.mk (.type "type") none (.cls (ClassData.mk "NoPicture" [.ref 31] [.ref 75,.ref 31,.type "ValueError",.type "Exception",.type "BaseException",.type "object"] 74 "NoPicture" Bool.true [] [] Bool.false none Bool.false)) #[Option.some (.ref 59),none,Option.some (.str "NoPicture" 246),Option.some (.str "NoPicture" 254),Option.some (.builtin "ValueError.__new__"),Option.some (.bool Bool.true)]) (tO #[.ref 31])
def hob6(i:Nat)(P:Params):Obj:=q3 i 85 (tO #[]) 87 (tO #[.str "self" 286,.str "row" 287]) 88 (tO #[]) 90 (cO "__init__" 283 "NoBook.__init__" 284 285 17 2 0 0 3 85 86 .none (.ref 87) (.ref 88) (.ref 89) 288 17 289) (.mk (.type "function") none (.func (.mk "__init__" "NoBook.__init__" (Arguments.mk [] [Arg.mk "self" none (Pos.mk 17 17 17 21),Arg.mk "row" none (Pos.mk 17 23 17 26)] none [] [] none []) (.stmts [Stmt.Assign [Expr.Attribute (Expr.Name "self" (Pos.mk 18 8 18 12)) "row" (Pos.mk 18 8 18 16)] (Expr.Name "row" (Pos.mk 18 19 18 22)) (Pos.mk 18 8 18 22)]) (Scope.mk ScopeKind.function [(Str.ofString "self",NameKind.local),(Str.ofString "row",NameKind.local)] Bool.false Bool.false []) 3 [] .none .none .none (.str "nonebetter.errors" 194) none (.ref 90) .none 0)) #[])
def hob7(i:Nat)(P:Params):Obj:=q3 i 92 (tO #[.str "row" 291]) 93 (.mk (.type "dict") none (.dict #[kO P "__module__" 278 (.str "nonebetter.errors" 194),kO P "__firstlineno__" 282 (.int 15 281),kO P "__init__" 290 (.ref 91),kO P "__static_attributes__" 292 (.ref 92),kO P "__doc__" 293 .none] 2) #[]) 94 (.mk (.type "type") none (.cls (ClassData.mk "NoBook" [.ref 31] [.ref 94,.ref 31,.type "ValueError",.type "Exception",.type "BaseException",.type "object"] 93 "NoBook" Bool.true [] [] Bool.false none Bool.false)) #[Option.some (.ref 78),none,Option.some (.str "NoBook" 271),Option.some (.str "NoBook" 279),Option.some (.builtin "ValueError.__new__"),Option.some (.bool Bool.true)]) 97 (tO #[]) (tO #[.str "thing" 301])
def hob8(i:Nat)(P:Params):Obj:=q3 i 100 (tO #[]) 102 (q5 "is_whole" 298 299 300 20 1 0 0 3 97 98 .none (.ref 99) (.ref 100) (.ref 101) 302 20 303) 103 (fO "is_whole" "is_whole" (htop 8) 3 (.str "nonebetter.kinds" 296) 102) 104 (tO #[]) (tO #[.str "thing" 308])
def hob9(i:Nat)(P:Params):Obj:=q3 i 107 (tO #[]) 109 (q5 "is_pair" 305 306 307 22 1 0 0 3 104 105 .none (.ref 106) (.ref 107) (.ref 108) 309 22 310) 110 (fO "is_pair" "is_pair" (htop 9) 3 (.str "nonebetter.kinds" 296) 109) 111 (.mk (.type "dict") none (.dict #[kO P "days" 314 (.int 0 315),kO P "bench" 316 (.int 1 317),kO P "shut" 318 (.int 1 319),kO P "store" 320 (.int 1 321),kO P "work" 322 (.int 1 323),kO P "way" 324 (.int 2 325),kO P "uses" 326 (.int 3 327),kO P "takes" 328 (.int 3 329),kO P "gives" 330 (.int 3 331),kO P "after" 332 (.int 2 333),kO P "late" 334 (.int 1 335)] 11) #[]) (tO #[])
def hob10(i:Nat)(P:Params):Obj:=q3 i 114 (tO #[.str "row" 351]) 115 (tO #[]) 117 (q5 "said_by" 348 349 350 26 1 0 0 3 112 113 .none (.ref 114) (.ref 115) (.ref 116) 352 26 353) 118 (fO "said_by" "said_by" (htop 12) 3 (.str "nonebetter.books" 312) 117) (tO #[])
def hob11(i:Nat)(P:Params):Obj:=q3 i 129 (cO "__init__" 369 "Facts.__init__" 370 371 31 2 0 0 3 126 127 .none .none .none (.ref 128) 372 31 373) 130 (fO "__init__" "Facts.__init__" (inClass (htop 14) 0) 3 (.str "nonebetter.facts" 355) 129) 131 (tO #[]) 133 (tO #[.str "self" 378,.str "work" 379,.str "way" 380]) (tO #[])
def hob12(i:Nat)(P:Params):Obj:=q3 i 136 (cO "is_way" 375 "Facts.is_way" 376 377 40 3 0 0 3 131 132 .none (.ref 133) (.ref 134) (.ref 135) 381 40 382) 137 (fO "is_way" "Facts.is_way" (inClass (htop 14) 1) 3 (.str "nonebetter.facts" 355) 136) 138 (tO #[]) 140 (tO #[.str "self" 387,.str "work" 388,.str "way" 389]) (tO #[])
def hob13(i:Nat)(P:Params):Obj:=q3 i 143 (cO "last_begin" 384 "Facts.last_begin" 385 386 43 3 0 0 3 138 139 .none (.ref 140) (.ref 141) (.ref 142) 390 43 391) 144 (fO "last_begin" "Facts.last_begin" (inClass (htop 14) 2) 3 (.str "nonebetter.facts" 355) 143) 145 (tO #[]) 148 (cO "all_choices" 393 "Facts.all_choices" 394 395 46 1 0 0 3 145 146 .none .none .none (.ref 147) 396 46 397) (fO "all_choices" "Facts.all_choices" (inClass (htop 14) 3) 3 (.str "nonebetter.facts" 355) 148)
def hob14(i:Nat)(P:Params):Obj:=q3 i 150 (tO #[]) 152 (tO #[.str "self" 402,.str "choice" 403]) 153 (tO #[]) 155 (cO "end_of" 399 "Facts.end_of" 400 401 53 2 0 0 3 150 151 .none (.ref 152) (.ref 153) (.ref 154) 404 53 405) (fO "end_of" "Facts.end_of" (inClass (htop 14) 4) 3 (.str "nonebetter.facts" 355) 155)
def hob15(i:Nat)(P:Params):Obj:=q3 i 157 (tO #[]) 159 (tO #[.str "self" 410,.str "choice" 411]) 160 (tO #[]) 162 (cO "price_of" 407 "Facts.price_of" 408 409 56 2 0 0 3 157 158 .none (.ref 159) (.ref 160) (.ref 161) 412 56 413) (fO "price_of" "Facts.price_of" (inClass (htop 14) 5) 3 (.str "nonebetter.facts" 355) 162)
def hob16(i:Nat)(P:Params):Obj:=q3 i 164 (tO #[]) 166 (tO #[.str "self" 418,.str "word" 419,.str "choice" 420,.str "name" 421]) 167 (tO #[]) 169 (cO "many" 415 "Facts.many" 416 417 59 4 0 0 3 164 165 .none (.ref 166) (.ref 167) (.ref 168) 422 59 423) (fO "many" "Facts.many" (inClass (htop 14) 6) 3 (.str "nonebetter.facts" 355) 169)
def hob17(i:Nat)(P:Params):Obj:=q3 i 171 (tO #[]) 173 (tO #[.str "self" 428,.str "choice" 429,.str "bench" 430,.str "day" 431]) 174 (tO #[]) 176 (cO "used_by" 425 "Facts.used_by" 426 427 62 4 0 0 3 171 172 .none (.ref 173) (.ref 174) (.ref 175) 432 62 433) (fO "used_by" "Facts.used_by" (inClass (htop 14) 7) 3 (.str "nonebetter.facts" 355) 176)
def hob18(i:Nat)(P:Params):Obj:=q3 i 178 (tO #[]) 180 (tO #[.str "self" 438,.str "choice" 439,.str "store" 440,.str "day" 441,.str "gain" 442]) 181 (tO #[]) 183 (cO "gain_by" 435 "Facts.gain_by" 436 437 67 4 0 0 3 178 179 .none (.ref 180) (.ref 181) (.ref 182) 443 67 444) (fO "gain_by" "Facts.gain_by" (inClass (htop 14) 8) 3 (.str "nonebetter.facts" 355) 183)
def hob19(i:Nat)(P:Params):Obj:=q3 i 185 (tO #[]) 188 (cO "room_of" 446 "Facts.room_of" 447 448 75 3 0 0 3 185 186 .none .none .none (.ref 187) 449 75 450) 189 (fO "room_of" "Facts.room_of" (inClass (htop 14) 9) 3 (.str "nonebetter.facts" 355) 188) 190 (tO #[.str "afters" 452,.str "benches" 453,.str "days" 454,.str "said" 455,.str "shuts" 456,.str "stores" 457,.str "works" 458]) (.mk (.type "dict") none (.dict #[kO P "__module__" 364 (.str "nonebetter.facts" 355),kO P "__firstlineno__" 368 (.int 29 367),kO P "__init__" 374 (.ref 130),kO P "is_way" 383 (.ref 137),kO P "last_begin" 392 (.ref 144),kO P "all_choices" 398 (.ref 149),kO P "end_of" 406 (.ref 156),kO P "price_of" 414 (.ref 163),kO P "many" 424 (.ref 170),kO P "used_by" 434 (.ref 177),kO P "gain_by" 445 (.ref 184),kO P "room_of" 451 (.ref 189),kO P "__static_attributes__" 459 (.ref 190),kO P "__dict__" 461 (.ref 193),kO P "__weakref__" 463 (.ref 194),kO P "__doc__" 464 .none] 4) #[])
def hob20(i:Nat)(P:Params):Obj:=q3 i 192 (.mk (.type "type") none (.cls (ClassData.mk "Facts" [.type "object"] [.ref 192,.type "object"] 191 "Facts" Bool.true [] [] Bool.false none Bool.false)) #[none,none,Option.some (.str "Facts" 357),Option.some (.str "Facts" 365),Option.some (.builtin "object.__new__"),Option.some (.bool Bool.true)]) 193 (.mk (.type "getset_descriptor") none (.fields #[.str "__dict__" 460,.ref 192,.builtin "function.__dict__",.builtin "function.__dict__#set"]) #[]) 194 (.mk (.type "getset_descriptor") none (.fields #[.str "__weakref__" 462,.ref 192,.builtin "ExceptionGroup.__weakref__",.none]) #[]) 197 (tO #[]) (q5 "choices_taken" 469 470 471 80 2 0 0 3 197 198 .none .none .none (.ref 199) 472 80 473)
def hob21(i:Nat)(P:Params):Obj:=q3 i 201 (fO "choices_taken" "choices_taken" (htop 16) 3 (.str "nonebetter.plans" 467) 200) 202 (tO #[]) 204 (tO #[.str "facts" 478,.str "work" 479,.str "thing" 480]) 205 (tO #[]) (q5 "is_as_told" 475 476 477 82 3 0 0 3 202 203 .none (.ref 204) (.ref 205) (.ref 206) 481 82 482)
def hob22(i:Nat)(P:Params):Obj:=q3 i 208 (fO "is_as_told" "is_as_told" (htop 17) 3 (.str "nonebetter.plans" 467) 207) 209 (tO #[]) 212 (q5 "wrong_works" 484 485 486 86 2 0 0 3 209 210 .none .none .none (.ref 211) 487 86 488) 213 (fO "wrong_works" "wrong_works" (htop 18) 3 (.str "nonebetter.plans" 467) 212) (tO #[])
def hob23(i:Nat)(P:Params):Obj:=q3 i 217 (q5 "wrong_rooms" 490 491 492 89 2 0 0 3 214 215 .none .none .none (.ref 216) 493 89 494) 218 (fO "wrong_rooms" "wrong_rooms" (htop 19) 3 (.str "nonebetter.plans" 467) 217) 219 (tO #[]) 222 (q5 "wrong_stores" 496 497 498 96 2 0 0 3 219 220 .none .none .none (.ref 221) 499 96 500) (fO "wrong_stores" "wrong_stores" (htop 20) 3 (.str "nonebetter.plans" 467) 222)
def hob24(i:Nat)(P:Params):Obj:=q3 i 224 (tO #[]) 227 (q5 "wrong_afters" 502 503 504 103 2 0 0 3 224 225 .none .none .none (.ref 226) 505 103 506) 228 (fO "wrong_afters" "wrong_afters" (htop 21) 3 (.str "nonebetter.plans" 467) 227) 229 (tO #[]) (tO #[.str "book" 511,.str "plan" 512,.str "facts" 513,.str "wrong" 514,.str "taken" 515])
def hob25(i:Nat)(P:Params):Obj:=q3 i 232 (tO #[]) 234 (q5 "broken" 508 509 510 107 2 0 0 3 229 230 .none (.ref 231) (.ref 232) (.ref 233) 516 107 517) 235 (fO "broken" "broken" (htop 22) 3 (.str "nonebetter.plans" 467) 234) 236 (tO #[]) (q5 "work_row" 523 524 525 116 2 0 0 3 236 237 .none .none .none (.ref 238) 526 116 527)
def hob26(i:Nat)(P:Params):Obj:=q3 i 240 (fO "work_row" "work_row" (htop 25) 3 (.str "nonebetter.pictures" 519) 239) 241 (tO #[]) 244 (q5 "bench_row" 529 530 531 119 3 0 0 3 241 242 .none .none .none (.ref 243) 532 119 533) 245 (fO "bench_row" "bench_row" (htop 26) 3 (.str "nonebetter.pictures" 519) 244) (tO #[])
def hob27(i:Nat)(P:Params):Obj:=q3 i 249 (q5 "is_bench_row" 535 536 537 122 3 0 0 3 246 247 .none .none .none (.ref 248) 538 122 539) 250 (fO "is_bench_row" "is_bench_row" (htop 27) 3 (.str "nonebetter.pictures" 519) 249) 251 (tO #[]) 254 (q5 "choices_seen" 541 542 543 127 2 0 0 3 251 252 .none .none .none (.ref 253) 544 127 545) (fO "choices_seen" "choices_seen" (htop 28) 3 (.str "nonebetter.pictures" 519) 254)
def hob28(i:Nat)(P:Params):Obj:=q3 i 256 (tO #[]) 259 (q5 "plan_seen" 547 548 549 136 2 0 0 3 256 257 .none .none .none (.ref 258) 550 136 551) 260 (fO "plan_seen" "plan_seen" (htop 29) 3 (.str "nonebetter.pictures" 519) 259) 268 (tO #[]) (tO #[.str "_law_found" 566])
def hob29(i:Nat)(P:Params):Obj:=q3 i 271 (tO #[]) 273 (q5 "_law_whole" 563 564 565 160 1 0 0 3 268 269 .none (.ref 270) (.ref 271) (.ref 272) 567 160 568) 274 (q4 "_law_whole" 32 273) 275 (tO #[]) (tO #[.str "_law_script" 573,.str "_law_k" 574,.str "_law_cell" 575,.str "_law_j" 576])
def hob30(i:Nat)(P:Params):Obj:=q3 i 278 (tO #[]) 280 (q5 "_law_block" 570 571 572 162 2 0 0 3 275 276 .none (.ref 277) (.ref 278) (.ref 279) 577 162 578) 281 (q4 "_law_block" 33 280) 282 (tO #[]) (tO #[.str "_law_script" 583,.str "_law_k" 584,.str "_law_cell" 585,.str "_law_number" 586])
def hob31(i:Nat)(P:Params):Obj:=q3 i 285 (tO #[]) 287 (q5 "_law_mixed" 580 581 582 169 2 0 0 3 282 283 .none (.ref 284) (.ref 285) (.ref 286) 587 169 588) 288 (q4 "_law_mixed" 34 287) 289 (tO #[]) (tO #[.str "_law_script" 593,.str "_law_k" 594,.str "_law_first" 595,.str "_law_number" 596,.str "_law_found" 597,.str "_law_j" 598])
def hob32(i:Nat)(P:Params):Obj:=q3 i 292 (tO #[]) 294 (q5 "_law_name" 590 591 592 180 3 0 0 3 289 290 .none (.ref 291) (.ref 292) (.ref 293) 599 180 600) 295 (q4 "_law_name" 35 294) 296 (tO #[]) (tO #[.str "_law_script" 605,.str "_law_days" 606,.str "_law_found" 607,.str "_law_number" 608,.str "_law_k" 609,.str "_law_bench" 610,.str "_law_more" 611,.str "_law_j" 612,.str "_law_end" 613,.str "_law_most" 614])
def hob33(i:Nat)(P:Params):Obj:=q3 i 299 (tO #[]) 301 (q5 "_law_things" 602 603 604 187 2 0 0 3 296 297 .none (.ref 298) (.ref 299) (.ref 300) 615 187 616) 302 (q4 "_law_things" 36 301) 303 (tO #[]) (tO #[.str "_law_script" 621,.str "_law_start" 622,.str "_law_days" 623,.str "_law_work" 624,.str "_law_way_here" 625,.str "_law_things_here" 626,.str "_law_number" 627,.str "_law_length_here" 628,.str "_law_found" 629,.str "_law_thing" 630,.str "_law_many_here" 631])
def hob34(i:Nat)(P:Params):Obj:=q3 i 306 (tO #[]) 308 (q5 "_law_way" 618 619 620 202 6 0 0 3 303 304 .none (.ref 305) (.ref 306) (.ref 307) 632 202 633) 309 (q4 "_law_way" 37 308) 310 (tO #[]) (tO #[.str "_law_script" 638,.str "_law_days" 639,.str "_law_things_here" 640,.str "_law_found" 641,.str "_law_names" 642,.str "_law_many_here" 643,.str "_law_k" 644,.str "_law_work" 645,.str "_law_number" 646,.str "_law_j" 647,.str "_law_rows" 648,.str "_law_pair" 649])
def hob35(i:Nat)(P:Params):Obj:=q3 i 313 (tO #[]) 315 (q5 "_law_works" 635 636 637 216 3 0 0 3 310 311 .none (.ref 312) (.ref 313) (.ref 314) 650 216 651) 316 (q4 "_law_works" 38 315) 317 (tO #[]) (tO #[.str "_law_rows" 656,.str "_law_row" 657,.str "_law_number" 658,.str "_law_least" 659,.str "_law_k" 660,.str "_law_at" 661])
def hob36(i:Nat)(P:Params):Obj:=q3 i 320 (tO #[]) 322 (q5 "_law_put" 653 654 655 238 3 0 0 3 317 318 .none (.ref 319) (.ref 320) (.ref 321) 662 238 663) 323 (q4 "_law_put" 39 322) 324 (tO #[]) (tO #[.str "_law_script" 668,.str "_law_days" 669,.str "_law_things_here" 670,.str "_law_rows" 671,.str "_law_mixed_here" 672,.str "_law_k" 673,.str "_law_row" 674])
def hob37(i:Nat)(P:Params):Obj:=q3 i 327 (tO #[]) 329 (q5 "_law_book" 665 666 667 247 1 0 0 3 324 325 .none (.ref 326) (.ref 327) (.ref 328) 675 247 676) 330 (q4 "_law_book" 40 329) 331 (tO #[]) (q5 "_law_ways" 678 679 680 258 2 0 0 3 331 332 .none .none .none (.ref 333) 681 258 682)
def hob38(i:Nat)(P:Params):Obj:=q3 i 335 (q4 "_law_ways" 41 334) 336 (tO #[]) 339 (q5 "_law_plan" 684 685 686 260 3 0 0 3 336 337 .none .none .none (.ref 338) 687 260 688) 340 (q4 "_law_plan" 42 339) (tO #[])
def hob39(i:Nat)(P:Params):Obj:=q3 i 344 (q5 "_law_length" 690 691 692 270 3 0 0 3 341 342 .none .none .none (.ref 343) 693 270 694) 345 (q4 "_law_length" 43 344) 346 (tO #[]) 349 (q5 "_law_many" 696 697 698 272 5 0 0 3 346 347 .none .none .none (.ref 348) 699 272 700) (q4 "_law_many" 44 349)
def hob40(i:Nat)(P:Params):Obj:=q3 i 351 (tO #[]) 354 (q5 "_law_all_done" 702 703 704 274 1 0 0 3 351 352 .none .none .none (.ref 353) 705 274 706) 355 (q4 "_law_all_done" 45 354) 356 (tO #[]) (q5 "_law_eased" 708 709 710 286 2 0 0 3 356 357 .none .none .none (.ref 358) 711 286 712)
def hob41(i:Nat)(P:Params):Obj:=q3 i 360 (q4 "_law_eased" 46 359) 361 (tO #[]) 364 (q5 "_law_picture" 714 715 716 304 2 0 0 3 361 362 .none .none .none (.ref 363) 717 304 718) 365 (q4 "_law_picture" 47 364) (tO #[])
def hob42(i:Nat)(P:Params):Obj:=q3 i 368 (tO #[.str "_law_book_here" 723,.str "_law_plan_here" 724,.str "_law_bench" 725,.str "_law_day" 726,.str "_law_total" 727,.str "_law_work" 728,.str "_law_done" 729]) 369 (tO #[]) 371 (q5 "_law_used" 720 721 722 322 4 0 0 3 366 367 .none (.ref 368) (.ref 369) (.ref 370) 730 322 731) 372 (q4 "_law_used" 48 371) (tO #[])
def hob43(i:Nat)(P:Params):Obj:=q3 i 375 (tO #[.str "_law_text" 736,.str "_law_number" 737,.str "_law_signs" 738,.str "_law_sign" 739,.str "_law_at" 740,.str "_law_way_here" 741,.str "_law_rows" 742,.str "_law_one" 743,.str "_law_other" 744,.str "_law_row" 745]) 376 (tO #[]) 378 (q5 "_law_spoiled" 733 734 735 328 2 0 0 3 373 374 .none (.ref 375) (.ref 376) (.ref 377) 746 328 747) 379 (q4 "_law_spoiled" 49 378) (tO #[])
def hob44(i:Nat)(P:Params):Obj:=q3 i 382 (tO #[.str "_law_book_here" 752,.str "_law_work" 753,.str "_law_row" 754,.str "_law_head" 755,.str "_law_days" 756,.str "_law_signs" 757,.str "_law_begin" 758,.str "_law_way_here" 759,.str "_law_due_here" 760]) 383 (tO #[]) 385 (q5 "_law_seen" 749 750 751 351 3 0 0 3 380 381 .none (.ref 382) (.ref 383) (.ref 384) 761 351 762) 386 (q4 "_law_seen" 50 385) (tO #[])
def hob45(i:Nat)(P:Params):Obj:=q3 i 390 (q5 "_law_bench_row" 764 765 766 362 3 0 0 3 387 388 .none .none .none (.ref 389) 767 362 768) 391 (q4 "_law_bench_row" 51 390) 392 (tO #[]) 395 (q5 "_law_due" 770 771 772 366 2 0 0 3 392 393 .none .none .none (.ref 394) 773 366 774) (q4 "_law_due" 52 395)
def hob46(i:Nat)(P:Params):Obj:=q3 i 397 (tO #[]) 399 (tO #[.str "_law_book_here" 779,.str "_law_text" 780,.str "_law_caught_here" 781,.str "e" 782]) 400 (tO #[]) 402 (q5 "_law_caught" 776 777 778 391 2 0 0 3 397 398 .none (.ref 399) (.ref 400) (.ref 401) 783 391 784) (q4 "_law_caught" 53 402)
def hob47(i:Nat)(P:Params):Obj:=q3 i 404 (tO #[]) 407 (q5 "law" 786 787 788 398 1 0 0 3 404 405 .none .none .none (.ref 406) 789 398 790) (q4 "law" 54 407)
def hob(i:Nat)(P:Params):Obj:=(bif ble i 223 then(bif ble i 134 then(bif ble i 78 then(bif ble i 43 then(bif ble i 18 then hob0 i P else(bif ble i 30 then hob1 i P else hob2 i P))else(bif ble i 56 then hob3 i P else(bif ble i 71 then hob4 i P else hob5 i P)))else(bif ble i 106 then(bif ble i 91 then hob6 i P else(bif ble i 99 then hob7 i P else hob8 i P))else(bif ble i 112 then hob9 i P else(bif ble i 126 then hob10 i P else hob11 i P))))else(bif ble i 177 then(bif ble i 156 then(bif ble i 141 then hob12 i P else(bif ble i 149 then hob13 i P else hob14 i P))else(bif ble i 163 then hob15 i P else(bif ble i 170 then hob16 i P else hob17 i P)))else(bif ble i 200 then(bif ble i 184 then hob18 i P else(bif ble i 191 then hob19 i P else hob20 i P))else(bif ble i 207 then hob21 i P else(bif ble i 214 then hob22 i P else hob23 i P)))))else(bif ble i 319 then(bif ble i 277 then(bif ble i 246 then(bif ble i 231 then hob24 i P else(bif ble i 239 then hob25 i P else hob26 i P))else(bif ble i 255 then hob27 i P else(bif ble i 270 then hob28 i P else hob29 i P)))else(bif ble i 298 then(bif ble i 284 then hob30 i P else(bif ble i 291 then hob31 i P else hob32 i P))else(bif ble i 305 then hob33 i P else(bif ble i 312 then hob34 i P else hob35 i P))))else(bif ble i 366 then(bif ble i 341 then(bif ble i 326 then hob36 i P else(bif ble i 334 then hob37 i P else hob38 i P))else(bif ble i 350 then hob39 i P else(bif ble i 359 then hob40 i P else hob41 i P)))else(bif ble i 387 then(bif ble i 373 then hob42 i P else(bif ble i 380 then hob43 i P else hob44 i P))else(bif ble i 396 then hob45 i P else(bif ble i 403 then hob46 i P else hob47 i P))))))
local macro_rules|`(term|q1 $p $a:num)=>`(term|(nat_lit $a,hob (nat_lit $a) $p)::[])|`(term|q1 $p $a:num $b*)=>`(term|(nat_lit $a,hob (nat_lit $a) $p)::q1 $p $b*)
def heapK:Params->W.Frag:=fun P=>q1 P 2 3 15 17 18 20 21 22 29 30 31 32 35 42 43 44 47 54 55 56 59 66 68 69 71 72 73 74 75 78 85 87 88 90 91 92 93 94 97 99 100 102 103 104 106 107 109 110 111 112 114 115 117 118 126 129 130 131 133 134 136 137 138 140 141 143 144 145 148 149 150 152 153 155 156 157 159 160 162 163 164 166 167 169 170 171 173 174 176 177 178 180 181 183 184 185 188 189 190 191 192 193 194 197 200 201 202 204 205 207 208 209 212 213 214 217 218 219 222 223 224 227 228 229 231 232 234 235 236 239 240 241 244 245 246 249 250 251 254 255 256 259 260 268 270 271 273 274 275 277 278 280 281 282 284 285 287 288 289 291 292 294 295 296 298 299 301 302 303 305 306 308 309 310 312 313 315 316 317 319 320 322 323 324 326 327 329 330 331 334 335 336 339 340 341 344 345 346 349 350 351 354 355 356 359 360 361 364 365 366 368 369 371 372 373 375 376 378 379 380 382 383 385 386 387 390 391 392 395 396 397 399 400 402 403 404 407 408
theorem all_ok{w:World}(M:Mg mg){fI fY fG fR fA:Addr}{fdY fdG fdR fdA:FuncData}(T:FcTxt K mg C)(TN:Tab w K mg "NAMES" aN fN)(hN:Qeh fN)(aa:Mk K C fI)(FI:Fun K "__init__" "Facts.__init__" Wk fI fdI)(bI:Binds K fdI ["self","book"] [])(Z:Fun K "end_of" "Facts.end_of" Qgb fE fdE)(bE:Binds K fdE ["self","choice"] [])(mE:Meth K C "end_of" fE)(FY:Fun K "is_way" "Facts.is_way" Vz fY fdY)(bY:Binds K fdY ["self","work","way"] [])(mY:Meth K C "is_way" fY)(FL:Fun K "last_begin" "Facts.last_begin" Qbp fL fdL)(bL:Binds K fdL ["self","work","way"] [])(mL:Meth K C "last_begin" fL)(FM:Fun K "many" "Facts.many" Qbq fM fdM)(bM:Binds K fdM ["self","word","choice","name"] [])(mM:Meth K C "many" fM)(FU:Fun K "used_by" "Facts.used_by" Qbr fU fdU)(bU:Binds K fdU ["self","choice","bench","day"] [])(mU:Meth K C "used_by" fU)(FG:Fun K "gain_by" "Facts.gain_by" Qbs fG fdG)(bG:Binds K fdG ["self","choice","store","day"] [])(mG:Meth K C "gain_by" fG)(FR:Fun K "room_of" "Facts.room_of" Qbt fR fdR)(bR:Binds K fdR ["self","bench","day"] [])(mR:Meth K C "room_of" fR)(FA:Fun K "all_choices" "Facts.all_choices" Qdd fA fdA)(bA:Binds K fdA ["self"] [])(mA:Meth K C "all_choices" fA)(Y:ErrI K mg "NoPicture" CX DX fX "row")(FX:Fun K "__init__" "NoPicture.__init__" sNPI fX fdX)(bX:Binds K fdX ["self","row"] [])(X:K.lookup fX=some fo)(S:fo.cls=.type "function")(V:PySem.W.keepIn K (.ref CX)=true)(EK:EXk K mg CX DX CB CN CS)(U:mg "WIDTH"=some (.int 13 tW))(F1:Fn K mg "_law_block" Qjq)(F2:Fn K mg "_law_mixed" Qjr)(F3:Fn K mg "_law_whole" Qjs)(F4:Fn K mg "_law_name" Qsq)(F5:Fn K mg "_law_things" Qed)(F6:Fn K mg "_law_way" sWay)(F7:Fn K mg "_law_put" sPut)(F8:Fn K mg "_law_works" Qjw)(F9:Fn K mg "_law_book" Qsx)(ae:Fn K mg "_law_ways" Qsy)(aj:Fn K mg "_law_length" Qbn)(aC:Fn K mg "_law_plan" Qlv)(am:Fn K mg "_law_many" Qot)(ap:Fn K mg "_law_all_done" Qqp)(au:Fn K mg "is_whole" sIW)(ai:Fn K mg "is_pair" sIP)(ad:Fn K mg "said_by" Qtf)(aq:Fn K mg "choices_taken" Qgf)(aE:Fn K mg "is_as_told" Qtn)(ax:Fn K mg "wrong_works" sWW)(ao:Fn K mg "wrong_rooms" sWR)(ag:Fn K mg "wrong_stores" sWS)(av:Fn K mg "wrong_afters" sWA)(ab:Fn K mg "broken" Qej)(ah:Fn K mg "work_row" sWoR)(aw:Fn K mg "bench_row" sBeR)(al:Fn K mg "is_bench_row" sIBR)(az:Fn K mg "choices_seen" sChS)(ac:Fn K mg "plan_seen" sPSe)(aF:Fn K mg "_law_eased" sEas)(an:Fn K mg "_law_used" sUse)(af:Fn K mg "_law_picture" sPic)(aA:Fn K mg "_law_spoiled" sSpo)(aB:Fn K mg "_law_seen" sLSe)(ak:Fn K mg "_law_bench_row" sLBR)(ar:Fn K mg "_law_due" sLDu)(aD:Fn K mg "_law_caught" sLCa)(ay:Fun K "law" "law" sLaw f fd):FnOk P w K mg base CX0 8 f fd ["_law_script"] (Qsc K):=by
 have E:=Qwq (P:=P) (w:=w) (base:=base) F1 M
 have a:=Qwr F2 M E
 have F:=Qwt (P:=P) (w:=w) (base:=base) F3 M
 have r:=okName F4 M a
 have A:=Qsr F5 M a r
 have N:=okWay F6 M a
 have Q:=okPut (P:=P) (w:=w) (base:=base) F7 M
 have B:=Qwz F8 M a r N
 have L:=okBook F9 M a A B Q
 have e:=okWays (P:=P) (w:=w) (base:=base) ae M
 have h:=Qtb (P:=P) (w:=w) (base:=base) aj M
 have G:=okPlan aC M a e
 have J:=okMany (P:=P) (w:=w) (base:=base) am M
 have s:=okDone ap M e
 have u:=okIW (P:=P) (w:=w) (base:=base) au M
 have y:=okIP (P:=P) (w:=w) (base:=base) ai M
 have j:=okSaid (P:=P) (w:=w) (base:=base) ad M TN hN
 have g:=Qxo (P:=P) (w:=w) (base:=base) aq T
 have p:=okTold aE M T (okFcY (P:=P) (w:=w) (base:=base) FY T) bY mY (okFcL (P:=P) (w:=w) (base:=base) FL T) bL mL u y
 have n:=okWW ax M T p
 have o:=okWR (P:=P) (w:=w) (base:=base) ao M T (okFcU (P:=P) (w:=w) (base:=base) FU T (Qpd (P:=P) (w:=w) (base:=base) Z T) bE mE (Qxl (P:=P) (w:=w) (base:=base) FM T) bM mM) bU mU (okFcR (P:=P) (w:=w) (base:=base) FR M T) bR mR
 have k:=okWS (P:=P) (w:=w) (base:=base) ag M T (okFcG (P:=P) (w:=w) (base:=base) FG T (Qpd (P:=P) (w:=w) (base:=base) Z T) bE mE (Qxl (P:=P) (w:=w) (base:=base) FM T) bM mM) bG mG
 have l:=okWA (P:=P) (w:=w) (base:=base) av M T (Qpd (P:=P) (w:=w) (base:=base) Z T) bE mE
 have b:=Qtq ab M T aa (okFcI FI M T j) bI n g o k l
 have x:=okWoR (P:=P) (w:=w) (base:=base) U T (Qpd (P:=P) (w:=w) (base:=base) Z T) bE mE ah M
 have t:=okBeR (P:=P) (w:=w) (base:=base) U T (okFcU (P:=P) (w:=w) (base:=base) FU T (Qpd (P:=P) (w:=w) (base:=base) Z T) bE mE (Qxl (P:=P) (w:=w) (base:=base) FM T) bM mM) bU mU aw M
 have i:=okIBR (P:=P) (w:=w) (base:=base) U T al M
 have m:=okChS (⟨Y,Qyt FX Y,bX,X,S,V⟩:NPk P w K mg base CX DX fX fdX fo) T (okFcA (P:=P) (w:=w) (base:=base) FA M T (okFcL (P:=P) (w:=w) (base:=base) FL T) bL mL) bA mA az M x
 have c:=okPSe (⟨Y,Qyt FX Y,bX,X,S,V⟩:NPk P w K mg base CX DX fX fdX fo) T aa (okFcI FI M T j) bI ac M i t b m
 have D:=okEas aF M b
 have H:=okUse an M h J
 have d:=okPic af M h H
 have v:=okSpo (P:=P) (w:=w) (base:=base) aA M
 have I:=okLSe aB M e
 have q:=okLBR (P:=P) (w:=w) (base:=base) ak M
 have O:=okLDu ar M I q d b
 have z:=okLCa EK aD M c
 have R:=okLaw (⟨Y,Qyt FX Y,bX,X,S,V⟩:NPk P w K mg base CX DX fX fdX fo) EK ay M L s G a D d v O z c.calm F
 exact R
theorem walk{l:PySem.W.OpenLaw}{q:Program}{d:DefRec}{K:Params->Fg}(j:l.most=some 63)(b:d.params.defaults=[])
  (c:∀(w:World) (h:Heap),YP w h->(K w.params).In h)
  (F:∀(w:World) (mg:Z9) (fa:Addr) (h:Heap),(K w.params).In h->h.Ns mainGlobals mg->mg d.name=some (.ref fa) ->
   ∃fd:FuncData,(∀(s:Shared) (u:Value),BindsTo s fd ⟨[u],[]⟩ [("_law_script",u)])/\∀base:Heap,(K w.params).In base->base.Ns mainGlobals mg->FnOk l.prog w (K w.params) mg base CX0 8 fa fd ["_law_script"] (Qsc (K w.params))) :
  PySem.W.WalkO q loose XP YP l.row.toRowW d [] (fun f vs=>PySem.call f vs) :=
 L2.Qnh (n:=63) (k:=8) (x:="_law_script") (CX:=fun _=>CX0) (sp:=fun w=>Qsc (K w.params)) j Dc b ⟨rfl,Dc,Dc⟩ c F (fun _ _ a e i m g=>⟨a,e,rfl,g,i,fun _=>rfl⟩) fun _ _ _ _ _ z=>z
end Nb
def Nb.pwv:PySem.Program:={ PySem.Challenge.pw_nonebetter_k96_no_pictures with main:={ PySem.Challenge.pw_nonebetter_k96_no_pictures.main with body:=[Nb.htop 0,Nb.htop 1,Nb.htop 2,Nb.htop 3,Nb.htop 4,Nb.htop 5,Nb.htop 6,Nb.htop 7,Nb.htop 8,Nb.htop 9,Nb.htop 10,Nb.htop 11,Nb.htop 12,Nb.htop 13,Nb.htop 14,Nb.htop 15,Nb.htop 16,Nb.htop 17,Nb.htop 18,Nb.htop 19,Nb.htop 20,Nb.htop 21,Nb.htop 22,Nb.htop 23,Nb.htop 24,Nb.htop 25,Nb.htop 26,Nb.htop 27,Nb.htop 28,Nb.htop 29,Nb.htop 30,Nb.htop 31,Nb.htop 32,Nb.htop 33,Nb.htop 34,Nb.htop 35,Nb.htop 36,Nb.htop 37,Nb.htop 38,Nb.htop 39,Nb.htop 40,Nb.htop 41,Nb.htop 42,Nb.htop 43,Nb.htop 44,Nb.htop 45,Nb.htop 46,Nb.htop 47,Nb.htop 48,Nb.htop 49,Nb.htop 50,Nb.htop 51,Nb.htop 52,Nb.htop 53,Nb.htop 54] } }
def PySem.W.Fast.tw1653918685017820470:Nat->PySem.Params->PySem.Obj:=Nb.hob
theorem PySem.W.Fast.te1653918685017820470:Nb.hob=PySem.W.Fast.tw1653918685017820470:=rfl
def PySem.W.Fast.tw17596700022866986692:PySem.Program:=PySem.Challenge.pw_nonebetter_k96_no_pictures
theorem PySem.W.Fast.te17596700022866986692:PySem.Challenge.pw_nonebetter_k96_no_pictures=PySem.W.Fast.tw17596700022866986692:=rfl
def PySem.W.Fast.tw9401860820342270615:PySem.Program:=Nb.pwv
theorem PySem.W.Fast.te9401860820342270615:Nb.pwv=PySem.W.Fast.tw9401860820342270615:=rfl
def PySem.W.Fast.tw11570947652754012800:Nat->PySem.Stmt:=Nb.htop
theorem PySem.W.Fast.te11570947652754012800:Nb.htop=PySem.W.Fast.tw11570947652754012800:=rfl
namespace PySem.W.Fast
def tw13660931033410816201:=0
def tw2111232678074258942:=0
def tw16476466676018209875:=0
def tw557891874147347005:=0
def tw882273589589080774:=0
def tw13539714169881598607:=0
def tw5524430168167999681:=0
def tw5595354649090720808:=0
def tw17499264022729935674:=0
def tw3705078926935148971:=0
def tw12788042599311985406:=0
def tw16230014834291700921:=0
def tw13196945917542323333:=0
def tw5723337548429241174:=0
def tw15793907965224082055:=0
def tw16900779646589595587:=0
def tw9104893963722600496:=0
def tw11878474043024910257:=0
def tw4830170183329583512:=0
def tw2868829408298641088:=0
def tw3120517946983348251:=0
def tw11822820252674552408:=0
def tw14448688773067867725:=0
def tw8638056547246862277:=0
def tw7651587457763804649:=0
def tw1994170570474383568:=0
def tw15638077997300929201:=0
def tw18149933753601014128:=0
def tw9788262427750757204:=0
def tw8902017608573786404:=0
def tw1126773114612951463:=0
def tw13496098339188172364:=0
def tw17639064655615778454:=0
def tw10028877394066538758:=0
def tw5398078626075559530:=0
def tw7589136426031593801:=0
def tw2601269885502317975:=0
def tw9721204169031316490:=0
def tw14766840422719012688:=0
def tw16102517007574454110:=0
def tw5793047053419385865:=0
def tw17277593299883301083:=0
def tw4602317877726035346:=0
def tw8762839583265732080:=0
def tw14749322565013044479:=0
def tw9950172486465594062:=0
def tw5849382834912377530:=0
def tw7618427620790704425:=0
def tw18278438258490698575:=0
def tw815228467824291172:=0
def tw9362082700458256820:=0
def tw2236823383232668177:=0
def tw7666491931583630150:=0
def tw190759992753104986:=0
def tw5000734894154001853:=0
def tw10594245301131181335:=0
def tw4559852216715297724:=0
def tw7474261935936554408:=0
def tw641734797342524464:=0
def tw9158410163186499113:=0
def tw7940853020406927147:=0
def tw8581509531865859662:=0
def tw11034715470372603210:=0
def tw4168938287345651557:=0
def tw14287557971549118021:=0
def tw2374354556527047761:=0
def tw10439054963393792930:=0
def tw13862416818279478024:=0
def tw5436181600634737842:=0
def tw10215825215891995006:=0
def tw128557184587681457:=0
def tw6945744555813831742:=0
def tw8607889433729649471:=0
def tw15950944594672137111:=0
def tw14455400511886193380:=0
def tw8015545890601221375:=0
def tw4756651702459825360:=0
def tw12363343542490445998:=0
def tw9536032063199404264:=0
def tw4392943098998375822:=0
def tw16923870100479120795:=0
def tw3304272588256271203:=0
def tw6707360955960540113:=0
def tw16825325297475772005:=0
def tw10748949878856967499:=0
def tw16554564702851197810:=0
def tw128541431262291422:=0
def tw12942097778753379395:=0
def tw17716965839399775225:=0
def tw15991921519134006684:=0
def tw13256703809542521127:=0
def tw16718691586699564368:=0
def tw7852163693105322649:=0
def tw7620042665546646559:=0
def tw6228351290046628032:=0
def tw8047919533622821333:=0
def tw16127473347247056489:=0
def tw15088178930445998680:=0
def tw18365480360108127300:=0
def tw6603651794823495641:=0
def tw11762842973238596445:=0
def tw13985636252082560806:=0
def tw11868503168078753766:=0
def tw8606212290843218672:=0
def tw2819758953928754904:=0
def tw539697300735562822:=0
def tw13659278993503394209:=0
def tw6199928050976799010:=0
def tw17436861113317116014:=0
def tw1443531037602784675:=0
def tw6228492626607469465:=0
def tw12382688332760560800:=0
def tw4851700899495903123:=0
def tw2132581598058920457:=0
def tw10128034025107559382:=0
def tw2332545279602379772:=0
def tw3624667872808359584:=0
def tw7585647644026071678:=0
def tw16486943000443676910:=0
def tw11081656217551476437:=0
def tw8547246051141570166:=0
def tw5887561299414310397:=0
def tw11903423558892336200:=0
def tw16179891563722189637:=0
def tw3536879472419985593:=0
def tw16680590747737860971:=0
def tw15466404171010773013:=0
def tw17532164984888899479:=0
def tw3709011112499533463:=0
def tw4100507253209999200:=0
def tw1173668560686861568:=0
def tw6944011774501838350:=0
def tw1044265987967346461:=0
def tw10418961514039911585:=0
def tw2192471143141067928:=0
def tw9308484375345973546:=0
def tw9110382971583396948:=0
def tw16607411301627395559:=0
def tw9958418162611448493:=0
def tw12059248460631841625:=0
def tw11432790391548305262:=0
def tw11754266182936660200:=0
def tw2852825502547575977:=0
def tw6646906529740429237:=0
def tw12702938038437165731:=0
def tw12818250063216712541:=0
def tw5315004177487368754:=0
def tw6140854027881020710:=0
def tw81425454596036257:=0
def tw4022059542357123216:=0
def tw15790473309673219955:=0
def tw4137629779250980855:=0
def tw14512891608232179481:=0
def tw6905270527374042009:=0
def tw2288419937634771341:=0
def tw4874785506547360104:=0
def tw12920547447253622834:=0
def tw17955765492370922404:=0
def tw12651462640992524495:=0
def tw17813867020076503401:=0
def tw14277369953376560875:=0
def tw18346572208943947911:=0
def tw17680417585307408573:=0
def tw17414658106155658165:=0
def tw15812555705788109140:=0
def tw13430933788781513988:=0
def tw13141890244789668852:=0
def tw17223802827076628626:=0
def tw13742342093810250106:=0
def tw6571125842413512639:=0
def tw17932289886940593714:=0
def tw18083488191478482561:=0
def tw12690493035945984908:=0
def tw9846786866093767550:=0
def tw10130431007215662843:=0
def tw12262892596942355684:=0
def tw5438643064599743578:=0
def tw6654105491344240191:=0
def tw13003296976950374110:=0
def tw16284360545527226816:=0
def tw2852525528421075:=0
def tw3950666995160341220:=0
def tw15214115895248021473:=0
def tw4193807361064014373:=0
def tw16739081195005604380:=0
def tw11401639038746703169:=0
def tw10752662253286630056:=0
def tw17542533943075269565:=0
def tw12669945728973502205:=0
def tw12273088952330787888:=0
def tw4122622801938518488:=0
def tw6953541094939954256:=0
def tw2204120292771614142:=0
def tw8520355491765026355:=0
def tw1151903995596846759:=0
def tw9113742097724529439:=0
def tw14154595143926289199:=0
def tw10934056593458491584:=0
def tw4662033638067612929:=0
def tw7062827125836387115:=0
def tw8529038483640093399:=0
def tw3733931576089745078:=0
def tw17596251485056326732:=0
def tw13037693104946358010:=0
def tw1157060907694404558:=0
def tw7943706232151112700:=0
def tw4071263058489950482:=0
def tw8885572400984071396:=0
def tw4606576566657580140:=0
def tw11481485775068011754:=0
def tw3695225497775446044:=0
def tw17002120867696227600:=0
def tw14315176578685971838:=0
def tw7287965786823842290:=0
end PySem.W.Fast
end
local macro_rules|`(term|q2 $a:num)=>`(term|(nat_lit $a)::[])|`(term|q2 $a:num $b*)=>`(term|(nat_lit $a)::q2 $b*)
local macro_rules|`(term|q6 $k $m $a $b)=>`(term|L2.Fn (L2.KOf $k) $m $a $b)|`(term|q6 $k $m $a $b $c*)=>`(term|L2.Fn (L2.KOf $k) $m $a $b/\q6 $k $m $c*)
open PySem PySem.W PyProof.Rows
set_option maxRecDepth 100000 in
set_option maxHeartbeats 0 in
theorem PySem.Challenge.cw_nonebetter_k96_no_pictures_holds : PySem.Challenge.rw_nonebetter_k96_no_pictures.Holds := by
 w_on;o_law;show PySem.W.OpenRow.Holds { PySem.Challenge.rw_nonebetter_k96_no_pictures.row with prog:=Nb.pwv };o_head (PySem.W.kHook Nb.heapK (q2 2 3 15 17 18 20 21 22 29 30 31 32 35 42 43 44 47 54 55 56 59 66 68 69 71 72 73 74 75 78 85 87 88 90 91 92 93 94 97 99 100 102 103 104 106 107 109 110 111 112 114 115 117 118 126 129 130 131 133 134 136 137 138 140 141 143 144 145 148 149 150 152 153 155 156 157 159 160 162 163 164 166 167 169 170 171 173 174 176 177 178 180 181 183 184 185 188 189 190 191 192 193 194 197 200 201 202 204 205 207 208 209 212 213 214 217 218 219 222 223 224 227 228 229 231 232 234 235 236 239 240 241 244 245 246 249 250 251 254 255 256 259 260 268 270 271 273 274 275 277 278 280 281 282 284 285 287 288 289 291 292 294 295 296 298 299 301 302 303 305 306 308 309 310 312 313 315 316 317 319 320 322 323 324 326 327 329 330 331 334 335 336 339 340 341 344 345 346 349 350 351 354 355 356 359 360 361 364 365 366 368 369 371 372 373 375 376 378 379 380 382 383 385 386 387 390 391 392 395 396 397 399 400 402 403 404 407 408) (fun _=>by kernel_rfl));(case hw=>w_witness2)
 k_fill
 refine Nb.walk (l:=PySem.Challenge.rw_nonebetter_k96_no_pictures) rfl rfl (fun w h Y=>PySem.W.kIn_of Y) ?F
 case F=>
  intro w mg fa h KX G hmg
  obtain⟨F1,F2,F3,F4,F5,F6,F7,F8,F9,F10,F11,F12,F13,F14,F15,F16,F17,F18,F19,F20,F21,F22,F23,F24,F25,F26,F27,F28,F29,F30,F31,F32,F33,F34,F35,F36,F37,F38⟩:q6 KX mg "_law_block" Nb.Qjq "_law_mixed" Nb.Qjr "_law_whole" Nb.Qjs "_law_name" Nb.Qsq "_law_things" Nb.Qed "_law_way" Nb.sWay "_law_put" Nb.sPut "_law_works" Nb.Qjw "_law_book" Nb.Qsx "_law_ways" Nb.Qsy "_law_length" Nb.Qbn "_law_plan" Nb.Qlv "_law_many" Nb.Qot "_law_all_done" Nb.Qqp "is_whole" Nb.sIW "is_pair" Nb.sIP "said_by" Nb.Qtf "choices_taken" Nb.Qgf "is_as_told" Nb.Qtn "wrong_works" Nb.sWW "wrong_rooms" Nb.sWR "wrong_stores" Nb.sWS "wrong_afters" Nb.sWA "broken" Nb.Qej "work_row" Nb.sWoR "bench_row" Nb.sBeR "is_bench_row" Nb.sIBR "choices_seen" Nb.sChS "plan_seen" Nb.sPSe "_law_eased" Nb.sEas "_law_used" Nb.sUse "_law_picture" Nb.sPic "_law_spoiled" Nb.sSpo "_law_seen" Nb.sLSe "_law_bench_row" Nb.sLBR "_law_due" Nb.sLDu "_law_caught" Nb.sLCa "law" Nb.sLaw:=by
   dsimp only[L2.KOf]
   refine⟨?_,?_,?_,?_,?_,?_,?_,?_,?_,?_,?_,?_,?_,?_,?_,?_,?_,?_,?_,?_,?_,?_,?_,?_,?_,?_,?_,?_,?_,?_,?_,?_,?_,?_,?_,?_,?_,?_⟩<;>(refine' L2.Yn KX G ?a ?l ?c ?k;case a | l | c | k=>k_is)
  have M:Nb.Mg mg:=by
   refine⟨PySem.W.mg_none_of KX G ?_,PySem.W.mg_none_of KX G ?_,PySem.W.mg_none_of KX G ?_,PySem.W.mg_none_of KX G ?_,PySem.W.mg_none_of KX G ?_,PySem.W.mg_none_of KX G ?_,PySem.W.mg_none_of KX G ?_,PySem.W.mg_none_of KX G ?_,PySem.W.mg_none_of KX G ?_,PySem.W.mg_none_of KX G ?_,PySem.W.mg_none_of KX G ?_,PySem.W.mg_none_of KX G ?_,PySem.W.mg_none_of KX G ?_,PySem.W.mg_none_of KX G ?_,PySem.W.mg_none_of KX G ?_,PySem.W.mg_none_of KX G ?_,PySem.W.mg_none_of KX G ?_,PySem.W.mg_none_of KX G ?_,PySem.W.mg_none_of KX G ?_,PySem.W.mg_none_of KX G ?_,PySem.W.mg_none_of KX G ?_⟩<;>k_is
  have CL:∃(C fI fE fY fL fM fU fG fR fA:Addr) (fdI fdE fdY fdL fdM fdU fdG fdR fdA:FuncData),Nb.FcTxt (L2.KOf KX) mg C/\L2.Mk (L2.KOf KX) C fI/\L2.Fun (L2.KOf KX) "__init__" "Facts.__init__" Nb.Wk fI fdI/\L2.Fun (L2.KOf KX) "end_of" "Facts.end_of" Nb.Qgb fE fdE/\L2.Meth (L2.KOf KX) C "end_of" fE/\L2.Fun (L2.KOf KX) "is_way" "Facts.is_way" Nb.Vz fY fdY/\L2.Meth (L2.KOf KX) C "is_way" fY/\L2.Fun (L2.KOf KX) "last_begin" "Facts.last_begin" Nb.Qbp fL fdL/\L2.Meth (L2.KOf KX) C "last_begin" fL/\L2.Fun (L2.KOf KX) "many" "Facts.many" Nb.Qbq fM fdM/\L2.Meth (L2.KOf KX) C "many" fM/\L2.Fun (L2.KOf KX) "used_by" "Facts.used_by" Nb.Qbr fU fdU/\L2.Meth (L2.KOf KX) C "used_by" fU/\L2.Fun (L2.KOf KX) "gain_by" "Facts.gain_by" Nb.Qbs fG fdG/\L2.Meth (L2.KOf KX) C "gain_by" fG/\L2.Fun (L2.KOf KX) "room_of" "Facts.room_of" Nb.Qbt fR fdR/\L2.Meth (L2.KOf KX) C "room_of" fR/\L2.Fun (L2.KOf KX) "all_choices" "Facts.all_choices" Nb.Qdd fA fdA/\L2.Meth (L2.KOf KX) C "all_choices" fA:=by
   dsimp only[L2.KOf]
   refine' ⟨_,_,_,_,_,_,_,_,_,_,_,_,_,_,_,_,_,_,_,⟨⟨?pg,?hd,?po,?sa⟩,?n1,?n2,?n3,?n4,?n5,?n6,?n7,PySem.W.mg_of KX G ?aC⟩,⟨?mk,?a1,?i1,?kc⟩,L2.Ka (st:=Nb.Wk) ?l1 ?c1 ?k1,L2.Ka (st:=Nb.Qgb) ?l2 ?c2 ?k2,⟨?a2,?i2,?m2⟩,L2.Ka (st:=Nb.Vz) ?l3 ?c3 ?k3,⟨?a3,?i3,?m3⟩,L2.Ka (st:=Nb.Qbp) ?l4 ?c4 ?k4,⟨?a4,?i4,?m4⟩,L2.Ka (st:=Nb.Qbq) ?l5 ?c5 ?k5,⟨?a5,?i5,?m5⟩,L2.Ka (st:=Nb.Qbr) ?l6 ?c6 ?k6,⟨?a6,?i6,?m6⟩,L2.Ka (st:=Nb.Qbs) ?l7 ?c7 ?k7,⟨?a7,?i7,?m7⟩,L2.Ka (st:=Nb.Qbt) ?l8 ?c8 ?k8,⟨?a8,?i8,?m8⟩,L2.Ka (st:=Nb.Qdd) ?l9 ?c9 ?k9,⟨?a9,?i9,?m9⟩⟩
   (case aC | a1 | i1 | l1 | c1 | k1 | a2 | i2 | l2 | c2 | k2 | m2 | a3 | i3 | l3 | c3 | k3 | m3 | a4 | i4 | l4 | c4 | k4 | m4 | a5 | i5 | l5 | c5 | k5 | m5 | a6 | i6 | l6 | c6 | k6 | m6 | a7 | i7 | l7 | c7 | k7 | m7 | a8 | i8 | l8 | c8 | k8 | m8 | a9 | i9 | l9 | c9 | k9 | m9 | pg | hd | po | sa | mk | kc=>k_is)
   (case n1 | n2 | n3 | n4 | n5 | n6 | n7=>unfold L2.NoAttr;k_is)
  obtain⟨C,fI,fE,fY,fL,fM,fU,fG,fR,fA,fdI,fdE,fdY,fdL,fdM,fdU,fdG,fdR,fdA,T,mkI,FI,FE,mE,FY,mY,FL,mL,FM,mM,FU,mU,FG,mG,FR,mR,FA,mA⟩:=CL
  have TNN:∃aN fN,L2.Tab w (L2.KOf KX) mg "NAMES" aN fN/\Nb.Qeh fN:=by
   dsimp only[L2.KOf]
   refine' ⟨_,Nb.Qpm (PySem.W.mg_of KX G ?b1) ?l1 ?k1 ?o1 ?e1⟩
   (case b1 | l1=>k_is);(case k1=>k_keys);(case o1=>decide);(case e1=>exact rfl)
  obtain⟨aN,fN,TN,hN⟩:=TNN
  have EX:∃(CX DX fX CB CN CS:Addr) (fdX:FuncData) (fo:Obj),L2.ErrI (L2.KOf KX) mg "NoPicture" CX DX fX "row"/\L2.Fun (L2.KOf KX) "__init__" "NoPicture.__init__" Nb.sNPI fX fdX/\(L2.KOf KX).lookup fX=some fo/\fo.cls=.type "function"/\PySem.W.keepIn (L2.KOf KX) (.ref CX)=true/\Nb.EXk (L2.KOf KX) mg CX DX CB CN CS:=by
   dsimp only[L2.KOf]
   refine' ⟨_,_,_,_,_,_,_,_,⟨PySem.W.mg_of KX G ?b1,⟨_,_,_,_,_,_,_,_,_,_,_,_,_,_,?c1,?c2,?c3,?c4,?c5⟩,⟨_,_,_,_,?m1,?m2,?m3,?m4,?m5⟩,Nb.ve_row⟩,L2.Ka (st:=Nb.sNPI) ?f1 ?f2 ?f3,?g1,?g2,?g3,⟨PySem.W.mg_of KX G ?p1,L2.isA_of ?i1 ?i2 ?i3,PySem.W.mg_of KX G ?p2,PySem.W.mg_of KX G ?p3,PySem.W.mg_of KX G ?p4,PySem.W.mg_of KX G ?p5,⟨?x1,?x2,?x3,?x4,?x5⟩,⟨?y1,?y2,?y3,?y4,⟨_,_,_,_,?y5,?y6⟩⟩,?z1,?z2,?z3,?z4⟩⟩
   (case b1=>k_is);(case c1=>exact rfl);(case c2=>kernel_rfl);(case c3 | c4 | c5=>k_is)
   (case m1=>exact rfl);(case m2=>kernel_rfl);(case m3 | m4 | m5 | f1 | f2 | f3=>k_is);(case g1=>exact rfl);(case g2=>exact rfl);(case g3 | p1 | i1 | i2 | i3 | p2 | p3 | p4 | p5 | x1 | x2 | x3 | x4 | x5 | y1 | y2 | y3 | y4=>k_is);(case y5=>exact rfl);(case y6=>exact rfl)
   (case z1=>kit_is);(case z2=>kit_is);(case z3=>kit_is);(case z4=>kit_is)
  obtain⟨CX,DX,fX,CB,CN,CS,fdX,fo,EI,FX,lkX,fcX,kcX,EK⟩:=EX
  have bX:=FX.binds (ps:=["self","row"])
  have FF0:∃tW,mg "WIDTH"=some (.int 13 tW):=by
   refine' ⟨_,PySem.W.mg_of KX G ?f1⟩
   (case f1=>exact rfl)
  obtain⟨tW,hWI⟩:=FF0
  have bI:=FI.binds (ps:=["self","book"])
  have bE:=FE.binds (ps:=["self","choice"])
  have bY:=FY.binds (ps:=["self","work","way"])
  have bL:=FL.binds (ps:=["self","work","way"])
  have bM:=FM.binds (ps:=["self","word","choice","name"])
  have bU:=FU.binds (ps:=["self","choice","bench","day"])
  have bG:=FG.binds (ps:=["self","choice","store","day"])
  have bR:=FR.binds (ps:=["self","bench","day"])
  have bA:=FA.binds (ps:=["self"])
  obtain⟨f,fd,FF,hm⟩:=F38
  have e0:=hmg.symm.trans hm
  cases e0
  refine' ⟨fd,?b,fun base kb nb=>Nb.all_ok M T TN hN mkI FI bI FE bE mE FY bY mY FL bL mL FM bM mM FU bU mU FG bG mG FR bR mR FA bA mA EI FX bX lkX fcX kcX EK hWI F1 F2 F3 F4 F5 F6 F7 F8 F9 F10 F11 F12 F13 F14 F15 F16 F17 F18 F19 F20 F21 F22 F23 F24 F25 F26 F27 F28 F29 F30 F31 F32 F33 F34 F35 F36 F37 FF⟩
  obtain⟨oc,od,kV,doc,pm,an,cdv,ct,osl,rfl,lk,hcd⟩:=FF.ex
  exact fun s u=>.of_eq rfl

