import PyProof.Rows.All
import Wide.All
import OpenK.AllK
import Wide.FinOn
import Lean
import PyProof.EqAt
import PyProof.EqKinds
import PyProof.TupleCall
import KE.KDictOf
import KE.KRevIter
import KE.KMinKey
import KE.KTryDeep
import KE.KIsAll
import KE.KSortTup
import OpenK.KTop
import KE.KEqDict
import KE.KPairComp
import KE.KDictSum
import PyProof.Rows.SortStr
import PyProof.FString5
import KE.KIntText
import PyProof.NeKinds
import PyProof.Rows.SortShellK
import KE.KDictList
import PyProof.StrLawsNeg
import PyProof.SetScanFacts
import PyProof.Rows.SetFrom
import PySem.Challenge.RW_nonebetter_k32_whole_shorter_papers
noncomputable section
abbrev Fg := PySem.W.Frag
section
open PySem PySem.Spec PySem.W PyProof.Rows
abbrev jQ := @List.length_map
abbrev jX := @wpAny_bind
abbrev jY := @List.getElem?_map
abbrev jZ := @Nat.le_refl
abbrev jJ := @List.getD_eq_getElem?_getD
abbrev jK := @wpAny_pure
abbrev jV := @Heap.get?_push_of_some
abbrev jW := @List.getElem?_eq_some_iff
abbrev kQ := @List.size_toArray
abbrev kX := @List.mem_of_getElem?
abbrev kY := @List.mem_cons_self
abbrev kZ := @of_decide_eq_true
abbrev kK := @List.map_append
abbrev kW := @List.mem_singleton
abbrev yQ := @List.length_append
abbrev yX := @Bool.false_ne_true
abbrev yY := @List.length_take
abbrev yZ := @Bool.false_eq_true
abbrev yJ := @Heap.get?_push_size
abbrev yK := @Heap.lt_size
abbrev yV := @Int.toNat_natCast
abbrev yW := @List.take_of_length_le
abbrev zQ := @Option.map_eq_some_iff
abbrev zX := @decide_eq_true
abbrev zY := @List.mem_cons_of_mem
abbrev zZ := @List.length_cons
abbrev zJ := @decide_eq_false
abbrev zK := @List.mem_cons
abbrev zV := @Nat.ne_of_lt
abbrev zW := @List.mem_map
abbrev xQ := @Nat.lt_of_le_of_lt
abbrev xX := @Array.length_toList
abbrev xY := @Nat.add_le_add_left
abbrev xZ := @List.map_cons
abbrev xJ := @Nat.lt_of_lt_of_le
abbrev xK := @List.length_range
abbrev xV := @Bool.and_eq_true
abbrev xW := @List.mem_append
abbrev wQ := @List.length_replicate
abbrev wX := @List.getElem?_eq_none
abbrev wY := @List.mem_append_right
abbrev wZ := @List.mem_range
abbrev wJ := @Int.emod_lt_of_pos
abbrev wK := @Array.getD_eq_getD_getElem?
abbrev wV := @List.take_length
abbrev wW := @List.length_set
abbrev jQa := @Int.emod_nonneg
abbrev jQb := @List.mem_nil_iff
abbrev jQc := @Nat.succ_ne_zero
abbrev jQd := @Option.bind_eq_some_iff
abbrev jQe := @Bool.not_true
abbrev jQf := @Nat.zero_le
abbrev jXa := @Int.natCast_nonneg
abbrev jXb := @List.mem_iff_getElem
abbrev jXc := @Bool.eq_iff_iff
abbrev jXd := @List.getElem_mem
abbrev jXe := @List.getElem?_eq_none_iff
abbrev jXf := @List.replicate_succ
abbrev jYa := @List.getElem?_range
abbrev jYb := @List.nodup_cons
abbrev jYc := @Nat.min_eq_left
abbrev jYd := @List.range_succ
abbrev jYe := @List.filter_cons_of_pos
abbrev jYf := @List.filter_cons_of_neg
abbrev jZa := @Nat.le_trans
abbrev jZb := @Heap.get?_update_other
abbrev jZc := @Heap.size_push
abbrev jZd := @List.ext_getElem?
abbrev jZe := @Bool.or_eq_true
abbrev jZf := @List.find?_cons
abbrev jJa := @Heap.get?_update_self
abbrev jJb := @Array.getElem?_toList
abbrev jJc := @List.length_drop
abbrev jJd := @List.all_eq_true
abbrev jJe := @List.eq_nil_of_length_eq_zero
abbrev jJf := @List.foldl_append
abbrev jKa := @List.mem_filter
abbrev jKb := @List.lookup_cons
abbrev jKc := @List.getElem?_append_right
abbrev jKd := @Array.forIn_toList
abbrev jKe := @List.getElem?_append_left
abbrev jKf := @List.length_nil
abbrev kQa := @List.mem_append_left
abbrev kQb := @Nat.lt_succ_of_lt
abbrev kQc := @Int.le_refl
abbrev kQd := @Nat.lt_irrefl
abbrev kQe := @Option.isSome_iff_exists
abbrev kQf := @List.length_eq_zero_iff
abbrev kXa := @List.pairwise_cons
abbrev kXb := @List.map_map
abbrev kXc := @Nat.succ_pos
abbrev kXd := @List.foldl_cons
abbrev kXe := @Nat.not_lt_zero
abbrev kXf := @List.flatten_cons
abbrev kYa := @List.pairwise_map
abbrev kYb := @Int.fdiv_eq_ediv_of_nonneg
abbrev kYc := @Int.not_lt
abbrev kYd := @Nat.le_of_lt
abbrev kYe := @List.map_nil
abbrev kYf := @Nat.le_add_right
abbrev kZa := @List.map_set
abbrev kZb := @List.pairwise_iff_getElem
abbrev kZc := @Array.getElem?_eq_getElem
abbrev kZd := @List.map_congr_left
abbrev kZe := @List.getElem?_take_of_lt
abbrev kZf := @plainId_quiet
abbrev kJa := @List.length_erase_of_mem
abbrev kJb := @List.filter_append
abbrev kJc := @Option.getD_some
abbrev kJd := @List.any_eq_true
abbrev kJe := @Nat.add_assoc
abbrev kJf := @List.mem_of_mem_take
abbrev kKa := @List.take_append_of_le_length
abbrev kKb := @List.append_nil
abbrev kKc := @Nat.ne_of_gt
abbrev kKd := @List.idxOf_lt_length_of_mem
abbrev kKe := @Nat.pow_succ
abbrev kKf := @List.mem_filterMap
abbrev yQa := @List.nodup_nil
abbrev yQb := @Nat.le_succ
abbrev yQc := @Nat.le_of_lt_succ
abbrev yQd := @List.any_cons
abbrev yQe := @List.map_take
abbrev yQf := @List.map_drop
abbrev yXa := @Nat.succ_le_succ
abbrev yXb := @List.getElem?_set_self
abbrev yXc := @Int.zero_add
abbrev yXd := @Nat.add_comm
abbrev yXe := @Nat.mul_comm
abbrev yXf := @List.length_pos_of_mem
abbrev yYa := @Option.map_some
abbrev yYb := @List.length_singleton
abbrev yYc := @List.mem_of_mem_erase
abbrev yYd := @List.length_filter_le
abbrev yYe := @List.getElem?_set_ne
abbrev yYf := @List.drop_zero
abbrev yZa := @Bool.not_false
abbrev yZb := @Nat.pow_le_pow_right
abbrev yZc := @List.filterMap_cons
abbrev yZd := @List.length_zipWith
abbrev yZe := @List.filter_eq_self
end
abbrev gE := @List.getElem?_eq_getElem
set_option Elab.async false
set_option linter.all false
set_option maxRecDepth 100000
set_option maxHeartbeats 4000000
set_option bootstrap.genMatcherCode false
set_option genSizeOfSpec false
set_option compiler.extract_closed false
abbrev VP:=PySem.Value->PySem.Shared->Prop
abbrev Z7:=List (PySem.Str×PySem.Str×Int)
abbrev Z8:=List (PySem.Addr×PySem.Obj)
abbrev Z9:=PySem.Str->Option PySem.Value
open Sum (inr)
open Nat (beq ble)
open Or (inl)
abbrev Y1:=@PySem.F.plainAttrs_list
abbrev Y2:=@PySem.F.slot_list_append
abbrev Y3:=@PySem.F.type_list_append
abbrev Y4:=@PySem.F.plainAttrs_str
abbrev Y5:=@Option.some.inj
open PyProof.Rows (envOfC)
open PySem.W (mg_none_of)
abbrev Y20:=@if_neg
abbrev Y21:=@absurd
abbrev Y22:=@if_pos
abbrev Y23:=@PySem.wpAny_field
abbrev Y24:=@PySem.wpAny_setField_rec
abbrev Y25:=@PySem.wpAny_call_entry
abbrev Y26:=@PySem.wpAny_newObj_type
abbrev Y28:=@PySem.codeAny_builtin
abbrev Y29:=@PySem.wpAny_mono
abbrev Y30:=@PySem.wpAny_holding
abbrev Y31:=@PySem.wpAny_truthy_bool
set_option hygiene false in
local macro_rules|`(term|qL $x)=>`(term|Qi Qj rfl M.len Qy (Qa $x Qc))
set_option hygiene false in
local macro_rules|`(term|qC $a*)=>`(term|Cal P w K mg base $a*)
set_option hygiene false in
local macro_rules|`(term|qI $a*)=>`(term|Inv X pins σ $a*)
set_option hygiene false in
local macro_rules|`(term|qA 0)=>`(term|[.str "share",.str "shut"])
set_option hygiene false in
local macro_rules|`(term|qB 0)=>`(term|["problem","best","told","line"])
set_option hygiene false in
local macro_rules|`(term|qD 0)=>`(term|((s.heap.update a (Obj.mapSeq fun _=>#[])).push (seqObj "tuple" vs.toArray 0)))
local macro_rules|`(tactic|exists $a,*)=>do let mut b:Array (Lean.TSyntax `term):=#[]; for x in a.getElems do {match x.raw.isNatLit? with|some 4=>b:=b++#[←`(_),←`(rfl)]|some 7=>b:=b++#[←`(_),←`(_),←`(rfl),←`(rfl)]|some 8=>b:=b++#[←`(_),←`(_),←`(_),←`(rfl),←`(rfl)]|_=>b:=b.push x}; `(tactic|refine⟨$b,*⟩)
theorem Om{p:Prop}(h:p:=by lia):p:=h
theorem Dc{p:Prop}(h:p:=by decide):p:=h
theorem Z2{x:PySem.Str}:[x].Nodup:=.cons (fun _ h=>nomatch h) .nil
theorem Sn{p:Prop}(a b:PySem.Str)(e:(¬a=b)=p:=by exact rfl)(h:¬a=b:=by decide +kernel):p:=e.mp h
theorem Z0{n:Int}(h:0<n:=by decide +kernel):0<n:=h
theorem Z6{a b c l:Nat}(n:Nat)(h:a+b+c<l)(d:n<=b+c:=by decide):a+n<l:=by lia
theorem Dk{p:Prop}(h:p:=by decide +kernel):p:=h
theorem J1 (h:True:=by rfl):True:=h
theorem J2 (h:True:=by decide):True:=h
theorem J3 (h:True:=by first | exact .inl rfl | exact .inr rfl | assumption):True:=h
theorem J7 (h:True:=by exact fun _ _ _ _ _ _=>by first|exact L2.bind0 rfl|exact L2.bind1 fun _=>rfl|exact L2.Zn fun _ _=>rfl|exact L2.Qdi fun _ _ _=>rfl|exact L2.Qba fun _ _ _ _=>rfl|exact L2.bind5 fun _ _ _ _ _=>rfl):True:=h
theorem J8 (h:True:=by intro v _ _ _ h;first|(cases h;exact congrArg _ ‹v=_›)|((repeat obtain⟨_,h⟩:=h);first|exact congrArg _ ‹v=_›|rfl)):True:=h
theorem J4 (h:True:=by intro _;rfl):True:=h
local macro_rules|`(term|qa $s)=>`(term|($s).heap.objs.size)
local macro_rules|`(term|qd $x $a*)=>`(term|PySem.wpAny (PySem.model ($x).prog ($x).w) $a*)
local macro_rules|`(term|qe $x $y $a*)=>`(term|PySem.wpAny (PySem.model $x $y) $a*)
local macro_rules|`(term|qf $a*)=>`(term|PySem.StrLaws.sliceText $a*)
local macro_rules|`(term|qg $a*)=>`(term|List.replicate $a*)
local macro_rules|`(term|qh $x $a*)=>`(term|($x).env.scope.names.lookup $a*)
local macro_rules|`(term|qb $t)=>`(term|autoParam $t J1._auto_1)
local macro_rules|`(term|qc $t)=>`(term|autoParam $t J2._auto_1)
namespace L2
open PySem PySem.Spec PyProof.Rows
abbrev Key:=Sum Int Str
def Qig:Key->Value->Bool
 |.inl k,v=>Value.isInt k v
 |.inr x,v=>Value.isStrOf x v
def keyH(w:World):Key->Int
 |.inl k=>hashInt k
 |.inr x=>hashStr w x
theorem Yc:∀{k:Key} {v:Value},Qig k v=true->(∃i t,k=Sum.inl i/\v=Value.int i t)\/(∃x t,k=inr x/\v=Value.str x t)
 |.inl i,v,h=>by
  obtain⟨t,e⟩:=Value.isInt_shape (k:=i) (v:=v) h
  exact .inl ⟨i,t,rfl,e⟩
 |.inr x,v,h=>by
  obtain⟨t,e⟩:=Value.isStrOf_shape (x:=x) (v:=v) h
  exact .inr ⟨x,t,rfl,e⟩
theorem Qmx(i:Int)(t:Tok):Qig (.inl i) (.int i t)=true:=by simp[Qig,Value.isInt]
theorem Qmy(x:Str)(t:Tok):Qig (.inr x) (.str x t)=true:=by simp[Qig,Value.isStrOf]
theorem key_ll(a b:Int):decide ((Sum.inl a:Key)=Sum.inl b)=(a == b):=by
 by_cases e:a=b
 .subst e;simp
 .have h:¬(Sum.inl a:Key)=Sum.inl b:=fun q=>e (Sum.inl.inj q)
  rw[zJ h]
  exact(beq_eq_false_iff_ne.mpr e).symm
theorem key_rr(a b:Str):decide ((inr a:Key)=inr b)=decide (a=b):=by
 by_cases e:a=b
 .subst e;simp
 .have h:¬(inr a:Key)=inr b:=fun q=>e (Sum.inr.inj q)
  rw[zJ h,zJ e]
theorem key_lr(a:Int)(b:Str):decide ((Sum.inl a:Key)=inr b)=false:=zJ (fun q=>nomatch q)
theorem key_rl(a:Str)(b:Int):decide ((inr a:Key)=Sum.inl b)=false:=zJ (fun q=>nomatch q)
def Xw(prog:Program)(w:World):PySem.KeyKind prog w Key where
 is:=Qig
 hash:=keyH w
 inj:=fun v a b ha hb=>by
  rcases Yc ha with⟨i,t,rfl,rfl⟩ | ⟨x,t,rfl,rfl⟩
  .rcases Yc hb with⟨j,u,rfl,e⟩ | ⟨y,u,rfl,e⟩
   .injection e with e1 _;rw[e1]
   .exact nomatch e
  .rcases Yc hb with⟨j,u,rfl,e⟩ | ⟨y,u,rfl,e⟩
   .exact nomatch e
   .injection e with e1 _;rw[e1]
 byValue:=fun k v h=>by
  rcases Yc h with⟨i,t,rfl,rfl⟩ | ⟨x,t,rfl,rfl⟩<;>rfl
 pyHash:=fun hv h=>by
  rcases Yc hv with⟨i,t,rfl,rfl⟩ | ⟨x,t,rfl,rfl⟩
  .exact wpAny_pyHash_int h
  .exact wpAny_pyHash_str h
 eqBool:=fun hu hv h=>by
  rcases Yc hu with⟨i,t,rfl,rfl⟩ | ⟨x,t,rfl,rfl⟩
  .rcases Yc hv with⟨j,u,rfl,rfl⟩ | ⟨y,u,rfl,rfl⟩
   .rw[key_ll]at h;exact wpAny_eqBool_int h
   .rw[key_lr]at h;exact SeqAt.EqAt.int_str i t y u _ _ _ _ h
  .rcases Yc hv with⟨j,u,rfl,rfl⟩ | ⟨y,u,rfl,rfl⟩
   .rw[key_rl]at h;exact SeqAt.EqAt.str_int x t j u _ _ _ _ h
   .rw[key_rr]at h;exact wpAny_eqBool_str h
 «strs»:=fun k x t v h=>by
  rcases Yc h with⟨i,u,rfl,e⟩ | ⟨y,u,rfl,e⟩
  .exact nomatch e
  .injection e with e1 _
   subst e1
   cases v<;>rfl
theorem Qlq(prog:Program)(w:World)(k:Key)(v:Value):(Xw prog w).is k v=Qig k v:=rfl
theorem Qbp(prog:Program)(w:World)(i:Int)(t:Tok):(Xw prog w).is (.inl i) (.int i t)=true:=Qmx i t
theorem Qih(prog:Program)(w:World)(x:Str)(t:Tok):(Xw prog w).is (.inr x) (.str x t)=true:=Qmy x t
inductive V where
 |non | bl (b:Bool) | int (i:Int) | str (x:Str) | byt (b:Array UInt8) | flt (b:UInt64) | ref (a:Addr) | ty (n:String)
 deriving DecidableEq
def RelV:V->Value->Prop
 |.non,u=>u=Value.none
 |.bl b,u=>u=Value.bool b
 |.int i,u=>∃t,u=Value.int i t
 |.str x,u=>∃t,u=Value.str x t
 |.byt b,u=>∃t,u=Value.bytes b t
 |.flt b,u=>∃t,u=Value.float b t
 |.ref a,u=>u=Value.ref a
 |.ty n,u=>u=Value.type n
abbrev Vals:List V->List Value->Prop:=Paired RelV
theorem Vals.length{xs:List V}{us:List Value}(r:Vals xs us):xs.length=us.length:=Paired.length r
theorem Vals.get:∀{xs:List V} {us:List Value} {i:Nat} {x:V},Vals xs us->xs[i]?=some x->∃u,us[i]?=some u/\RelV x u
 |_,_,_,_,.nil,e=>by simp at e
 |_,_,0,_,.cons r _,e=>by simp at e;subst e;exists 4,r
 |_,_,i+1,x,.cons _ t,e=>by
  obtain⟨u,a,b⟩:=Vals.get (i:=i) (x:=x) t (by simpa using e)
  exists u,by simpa using a,b
theorem Vals.set{x:V}{u:Value}(r:RelV x u):∀{xs:List V} {us:List Value} (i:Nat),Vals xs us->Vals (xs.set i x) (us.set i u)
 |_,_,_,.nil=>.nil
 |_,_,0,.cons _ t=>.cons r t
 |_,_,i+1,.cons q t=>.cons q (Vals.set r i t)
theorem Vals.append{xs ys:List V}{us ws:List Value}(h:Vals xs us)(g:Vals ys ws):Vals (xs++ys) (us++ws):=by
 induction h with
 |nil=>exact g
 |cons r t ih=>exact .cons r ih
theorem Vals.take:∀{xs:List V} {us:List Value} (n:Nat),Vals xs us->Vals (xs.take n) (us.take n)
 |_,_,0,_=>.nil
 |_,_,_+1,.nil=>.nil
 |_,_,n+1,.cons r t=>.cons r (Vals.take n t)
theorem Vals.drop:∀{xs:List V} {us:List Value} (n:Nat),Vals xs us->Vals (xs.drop n) (us.drop n)
 |_,_,0,r=>r
 |_,_,_+1,.nil=>.nil
 |_,_,n+1,.cons _ t=>Vals.drop n t
def RelO:Option V->Option Value->Prop
 |some v,some u=>RelV v u
 |none,none=>True
 |_,_=>False
def KV{κ:Type}:List (κ×V)->List (κ×Value)->Prop:=Paired fun(p:κ×V) (q:κ×Value)=>p.1=q.1/\RelV p.2 q.2
def kV:Key->V
 |.inl i=>.int i
 |.inr x=>.str x
inductive HO where
 |lst (xs:List V)
 |tup (xs:List V)
 |dK (kvs:List (Key×V)) | dT (kvs:List (List Key×V))
 |set (S:Int->Bool) (n:Nat)
 |ins (C dx:Addr) (fs:List (Str×V))
 |own (x:Addr)
 |xd (fs:List (Str×V))
 |met (f x:Addr)
 |rng (lo hi:Int)
 |frz (o:Obj) (u:HO)
 |tbl (ps:Array Value)
 |ext (φ:Heap->Prop)
abbrev Hp:=Addr->Option HO
def upd(H:Hp)(a:Addr)(o:HO):Hp:=fun b=>if b=a then some o else H b
theorem upd_same{H:Hp}{a:Addr}{o:HO}:upd H a o a=some o:=by unfold upd;rw[Y22 rfl]
theorem Qn{H:Hp}{a b:Addr}{o:HO}(h:b≠a):upd H a o b=H b:=by unfold upd;rw[Y20 h]
theorem upd_upd{H:Hp}{a:Addr}{o u:HO}:upd (upd H a o) a u=upd H a u:=by
 funext b;unfold upd;split<;>rfl
theorem Qdg{H:Hp}{a b:Addr}{o u:HO}(h:H a=some o)(h':H b=some u)(d:o≠u):a≠b:=by
 intro e;subst e;rw[h]at h';exact d (Y5 h')
theorem Qk{H:Hp}{a b:Addr}{o:HO}(h:H a=some o)(h':H b=none):a≠b:=by
 intro e;subst e;rw[h]at h';cases h'
section
variable(P:Program)(w:World)
def ObjOk(H:Hp)(h:Heap)(a:Addr):HO->Prop
 |.lst xs=>xs.length<=sizeLine/\∃(its:List Value) (n:Nat),Vals xs its/\h.get? a=some { cls:=.type "list",data:=.seq its.toArray n }
 |.tup xs=>xs.length<=sizeLine/\∃its:List Value,Vals xs its/\IsTup h a its.toArray
 |.dK kvs=>kvs.length<=sizeLine/\(a == sysModules)=false/\∃vs,KV kvs vs/\h.DictOf (Xw P w) a vs
 |.dT kvs=>kvs.length<=sizeLine/\(a == sysModules)=false/\∃xs:List (List Key×Addr×Value),
   Paired (fun(p:List Key×V) (q:List Key×Addr×Value)=>p.1=q.1/\H q.2.1=some (.tup (p.1.map kV))/\RelV p.2 q.2.2) kvs xs /\
   ∃o es ep,h.get? a=some o/\o.ExactDict/\o.data=.dict es ep/\es.toList=xs.map (entryOfKey (tupleKind (Xw P w)))/\(xs.map (·.1)).Nodup
 |.set S n=>h.SetOf (intKind P w) a S n
 |.ins C dx fs=>H dx=some (.own a)/\fs.length<=1000/\dx≠a/\h.get? a=some (PySem.W.instObj C dx) /\
   ∃mA,h.Ns1 dx mA/\(∀f,RelO (fs.lookup f) (mA f))/\PySem.Within mA (fs.map (·.1))
 |.own _=>∃o,h.get? a=some o
 |.xd fs=>∃mA,h.Ns1 a mA/\∀f,RelO (fs.lookup f) (mA f)
 |.rng lo hi=>∃t u v,h.get? a=some { cls:=.type "range",data:=.fields #[.int lo t,.int hi u,.int 1 v] }
 |.frz o u=>h.get? a=some o/\ObjOk H h a u
 |.tbl ps=>h.get? a=some { cls:=.none,data:=.fields ps }
 |.met f x=>h.get? a=some (PySem.W.methodObj (.ref f) (.ref x))
 |.ext φ=>φ h/\(∃o,h.get? a=some o)/\∀h1 h2:Heap,φ h1->(∀o,h1.get? a=some o->h2.get? a=some o)->φ h2
def HOk(H:Hp)(h:Heap):Prop:=∀a o,H a=some o->ObjOk P w H h a o
end
section
variable{P:Program}{w:World}{H H':Hp}{h h':Heap}{a:Addr}{o:HO}
theorem ObjOk.lt(x:ObjOk P w H h a o):a<h.objs.size:=by
 cases o with
 |lst xs=>obtain⟨_,_,_,_,e⟩:=x;exact yK e
 |tup xs=>obtain⟨_,_,_,p⟩:=x;exact p.lt
 |dK kvs=>obtain⟨_,_,_,_,o,_,_,e,_⟩:=x;exact yK e
 |dT kvs=>obtain⟨_,_,_,_,o,_,_,e,_⟩:=x;exact yK e
 |set S n=>obtain⟨o,_,_,_,e,_⟩:=x;exact yK e
 |ins C dx fs=>obtain⟨_,_,_,e,_⟩:=x;exact yK e
 |own y=>obtain⟨_,e⟩:=x;exact yK e
 |xd fs=>obtain⟨_,⟨_,_,_,e,_⟩,_⟩:=x;exact yK e
 |rng lo hi=>obtain⟨_,_,_,e⟩:=x;exact yK e
 |frz ob u=>obtain⟨e,_⟩:=x;exact yK e
 |tbl ps=>exact yK (show h.get? a=some _ from x)
 |met f y=>exact yK (show h.get? a=some _ from x)
 |ext φ=>obtain⟨_,⟨_,e⟩,_⟩:=x;exact yK e
theorem Paired.mapP{α β:Type}{F G:α->β->Prop}{l₁:List α}{l₂:List β}(h:Paired F l₁ l₂)(f:∀a b,F a b->G a b):Paired G l₁ l₂:=by
 induction h with
 |nil=>exact .nil
 |cons r t ih=>exact .cons (f _ _ r) ih
theorem Paired.imp'{α β:Type}{F G:α->β->Prop}(f:∀a b,F a b->G a b){l₁:List α}{l₂:List β}(r:Paired F l₁ l₂):Paired G l₁ l₂:=Paired.mapP r f
theorem ObjOk.stay(x:ObjOk P w H h a o)(k:∀b u,(b=a\/H b=some (.own a))->h.get? b=some u->h'.get? b=some u)
  (D:∀b,H b=some (.own a)->H' b=some (.own a)) (B:∀b xs,H b=some (.tup xs)->H' b=some (.tup xs)):ObjOk P w H' h' a o:=by
 induction o with
 |lst xs=>obtain⟨z,l,n,r,e⟩:=x;exists z,l,n,r,k _ _ (.inl rfl) e
 |tup xs=>obtain⟨z,l,r,g,e,c⟩:=x;exists z,l,r,g,k _ _ (.inl rfl) e,c
 |dK kvs=>obtain⟨z,y,E,r,g,i,j,e,c⟩:=x;exists z,y,E,r,g,i,j,k _ _ (.inl rfl) e,c
 |dT kvs=>
  obtain⟨z,y,xs,r,g,i,j,e,c⟩:=x
  exists z,y,xs,Paired.mapP r fun p q z=>⟨z.1,B _ _ z.2.1,z.2.2⟩,g,i,j,k _ _ (.inl rfl) e,c
 |set S n=>obtain⟨g,i,j,t,e,c⟩:=x;exists g,i,j,t,k _ _ (.inl rfl) e,c
 |ins C dx fs=>
  obtain⟨d,z,ne,e,s,⟨m,i,j,A,c⟩,r⟩:=x
  exists D _ d,z,ne,k _ _ (.inl rfl) e,s,⟨m,i,j,k _ _ (.inr d) A,c⟩,r
 |own y=>obtain⟨g,e⟩:=x;exists g,k _ _ (.inl rfl) e
 |xd fs=>obtain⟨s,⟨m,i,j,e,c⟩,r⟩:=x;exists s,⟨m,i,j,k _ _ (.inl rfl) e,c⟩,r
 |rng lo hi=>obtain⟨t,u,v,e⟩:=x;exists t,u,v,k _ _ (.inl rfl) e
 |frz g u ih=>obtain⟨e,q⟩:=x;exists k _ _ (.inl rfl) e,ih q
 |tbl ps=>
  have e:h.get? a=some { cls:=.none,data:=.fields ps }:=x
  show h'.get? a=some { cls:=.none,data:=.fields ps }
  exact k a _ (.inl rfl) e
 |met f y=>
  have e:h.get? a=some (PySem.W.methodObj (.ref f) (.ref y)):=x
  show h'.get? a=some (PySem.W.methodObj (.ref f) (.ref y))
  exact k a _ (.inl rfl) e
 |ext φ=>obtain⟨p,⟨o,e⟩,st⟩:=x;exists st _ _ p fun o q=>k _ _ (.inl rfl) q,⟨o,k _ _ (.inl rfl) e⟩,st
theorem HOk.lt(x:HOk P w H h)(e:H a=some o):a<h.objs.size:=(x a o e).lt
theorem HOk.fresh(x:HOk P w H h)(e:h.objs.size<=a):H a=none:=by
 cases q:H a with
 |none=>rfl
 |some u=>exact Y21 (xJ (x.lt q) e) (kQd _)
theorem HOk.kept(x:HOk P w H h)(k:∀b u,h.get? b=some u->h'.get? b=some u):HOk P w H h':=fun a o e=>
 (x a o e).stay (fun b u _ q=>k b u q) (fun _ q=>q) fun _ _ q=>q
theorem HOk.laid(x:HOk P w H h)(k:∀b u,h.get? b=some u->h'.get? b=some u)(g:h.objs.size<=a)(new:ObjOk P w (upd H a o) h' a o):HOk P w (upd H a o) h':=fun b u e=>by
 have f:=x.fresh g
 by_cases d:b=a
 .subst d;rw[upd_same]at e;cases e;exact new
 .rw[Qn d]at e
  exact(x b u e).stay (fun c v _ q=>k c v q) (fun c q=>by rw[Qn (Qk q f)];exact q) fun c i q=>by rw[Qn (Qk q f)];exact q
end
def Rd(H:Hp)(a:Addr)(u:HO):Prop:=H a=some u\/∃o,H a=some (.frz o u)
theorem Rd.ok{P:Program}{w:World}{H:Hp}{h:Heap}{a:Addr}{u:HO}(r:Rd H a u)(x:HOk P w H h):ObjOk P w H h a u:=by
 rcases r with r | ⟨o,r⟩
 .exact x a u r
 .obtain⟨_,q⟩:=x a _ r
  exact q
def Mut:Option HO->Prop
 |some (.lst _)=>True
 |some (.dK _)=>True
 |some (.dT _)=>True
 |some (.set _ _)=>True
 |some (.ins _ _ _)=>True
 |some (.ext _)=>True
 |_=>False
section
variable{P:Program}{w:World}{H:Hp}{h h':Heap}{x e:Addr}{o':HO}
theorem HOk.write(ok:HOk P w H h)(i:Mut (H x))(he:e=x\/H e=some (.own x))(k:∀b u,b≠e->h.get? b=some u->h'.get? b=some u)(l:∃u,h'.get? e=some u)
  (new:ObjOk P w (upd H x o') h' x o'):HOk P w (upd H x o') h':=fun b u q=>by
 have d:∀c y,H c=some (.own y)->c≠x:=fun c y r z=>by subst z;rw[r]at i;exact i
 have f:∀c g,H c=some (.tup g)->c≠x:=fun c g r z=>by subst z;rw[r]at i;exact i
 by_cases j:b=x
 .subst j;rw[upd_same]at q;cases q;exact new
 .rw[Qn j]at q
  by_cases a:b=e
  .have m:H b=some (.own x):=by
    rcases he with z | z
    .exact Y21 (a.trans z) j
    .rw[a];exact z
   rw[q]at m;cases m
   obtain⟨v,hv⟩:=l
   exists v,by rw[a];exact hv
  .refine(ok b u q).stay (fun c v hc r=>k c v ?_ r) (fun c r=>by rw[Qn (d c b r)];exact r) fun c g r=>by rw[Qn (f c g r)];exact r
   rcases hc with rfl | hc
   .exact a
   .rintro rfl
    rcases he with z | z
    .exact d c b hc z
    .rw[hc]at z;cases z;exact j rfl
end
structure Un(fs ex:List Addr)(H H':Hp)(h h':Heap):Prop where
 keep:∀b o,h.get? b=some o->H b=none->b∉fs->b∉ex->h'.get? b=some o
 slot:∀b o,h.get? b=some o->H b=none->b∈fs->b∉ex->∃sl,h'.get? b=some { o with slots:=sl }
 free:∀b o,h.get? b=some o->H b=none->b∉ex->H' b=none
 there:∀b o,h.get? b=some o->b∉ex->∃o',h'.get? b=some o'
 tups:∀b xs,H b=some (.tup xs)->H' b=some (.tup xs)
 frzs:∀b o u,H b=some (.frz o u)->H' b=some (.frz o u)
 tbls:∀b ps,H b=some (.tbl ps)->∃more,H' b=some (.tbl (ps++more))
section
variable{fs ex:List Addr}{H H1:Hp}{h h1 h':Heap}{a x e:Addr}{o:HO}
theorem Un.any(u:Un fs ex H H1 h h1){b:Addr}{ob:Obj}(q:h.get? b=some ob)(n:H b=none)(c:b∉ex):∃sl,h1.get? b=some { ob with slots:=sl }:=by
 by_cases a:b∈fs
 .exact u.slot b ob q n a c
 .exact⟨ob.slots,u.keep b ob q n a c⟩
theorem Un.kept(k:∀b u,h.get? b=some u->h'.get? b=some u):Un fs ex H H h h' :=
 ⟨fun b a q _ _ _=>k b a q,fun b a q _ _ _=>⟨a.slots,k b a q⟩,fun _ _ _ n _=>n,fun b a q _=>⟨a,k b a q⟩,fun _ _ q=>q,fun _ _ _ q=>q,fun _ c q=>⟨#[],by rw[q];simp⟩⟩
theorem Un.refl:Un fs ex H H h h:=Un.kept fun _ _ q=>q
theorem Un.laid(k:∀b u,h.get? b=some u->h'.get? b=some u)(e:h.objs.size<=a)(c:H a=none):Un fs ex H (upd H a o) h h' where
 keep:=fun b u q _ _ _=>k b u q
 slot:=fun b u q _ _ _=>⟨u.slots,k b u q⟩
 free:=fun b u q n _=>by rw[Qn (zV (xJ (yK q) e))];exact n
 there:=fun b u q _=>⟨u,k b u q⟩
 tups:=fun b d q=>by rw[Qn (Qk q c)];exact q
 frzs:=fun b u d q=>by rw[Qn (Qk q c)];exact q
 tbls:=fun b f q=>⟨#[],by rw[Qn (Qk q c),q];simp⟩
theorem Un.write(c:Mut (H x))(he:e=x\/H e=some (.own x))(k:∀b u,b≠e->h.get? b=some u->h'.get? b=some u)(d:∃u,h'.get? e=some u):Un fs ex H (upd H x o) h h':=by
 have i:∀b,H b=none->b≠x:=fun b n z=>by subst z;rw[n]at c;exact c
 have g:∀b,H b=none->b≠e:=fun b n z=>by
  subst z
  rcases he with r | r
  .exact i b n r
  .rw[n]at r;cases r
 have f:∀b u,H b=some u->¬Mut (some u)->b≠x:=fun b u q l z=>by subst z;rw[q]at c;exact l c
 refine⟨fun b u q n _ _=>k b u (g b n) q,fun b u q n _ _=>⟨u.slots,k b u (g b n) q⟩,fun b u q n _=>by rw[Qn (i b n)];exact n,fun b u q _=>?_,
  fun b j q=>by rw[Qn (f b _ q fun z=>z)];exact q,fun b u j q=>by rw[Qn (f b _ q fun z=>z)];exact q,fun b m q=>⟨#[],by rw[Qn (f b _ q fun z=>z),q];simp⟩⟩
 by_cases a:b=e
 .subst a;exact d
 .exact⟨u,k b u a q⟩
end
def trk(h:Heap)(H:Hp):List Addr:=(List.range h.objs.size).filter fun a=>(H a).isSome
def hidT(h:Heap)(H:Hp):Heap:=PySem.W.hideAll h (trk h H)
theorem Qmz(h:Heap)(H:Hp):(hidT h H).objs.size=h.objs.size:=PySem.W.hideAll_size _ _
theorem Qsb{h:Heap}{H:Hp}{b:Addr}{o:Obj}(e:h.get? b=some o)(n:H b=none):(hidT h H).get? b=some o :=
 PySem.W.hideAll_get _ e fun a=>by
  have q:(H b).isSome=true:=(jKa.mp a).2
  rw[n]at q;simp at q
theorem Qwg{h:Heap}{H:Hp}{b:Addr}{o:Obj}(e:(hidT h H).get? b=some o):h.get? b=some o/\H b=none:=by
 have a:h.get? b=some o:=PySem.W.of_hideAll (trk h H) e
 exists a,?_
 cases q:H b with
 |none=>rfl
 |some x=>
  have c:b∈trk h H:=jKa.mpr ⟨wZ.mpr (yK a),by simp[q]⟩
  have z:(hidT h H).get? b=none:=PySem.W.hideAll_none (trk h H) c
  rw[z]at e;cases e
structure Mod(K:Fg)(mg:Z9)(base:Heap):Prop where
 kin:K.In base
 glob:base.Ns mainGlobals mg
 blt:∃mb,base.Ns builtinsNs mb/\∀x:Str,x≠"__name__"->mb x=bootBuiltins x
 nolimit:base.NoLimit
set_option genInjectivity false in
set_option genInjectivity false in
structure Cx where
 prog:Program
 w:World
 K:Fg
 mg:Z9
 base:Heap
 A:Around
 N:List Str
 s₀:Shared
 H₀:Hp
 env:Env
 outer:List Env
 stack:List Env
 ex:List Addr
 fn:Str->Bool
 calm:Bool
 pn:Z8
 xe:VP
def frs(l:List Env):List Addr:=l.filterMap (·.frame)
abbrev Cx.fs(X:Cx):List Addr:=frs X.outer
def Vis(sc:Scope)(x:Str):Prop:=sc.names.lookup x=some .local\/sc.names.lookup x=some .cell\/sc.names.lookup x=some .free
def Loc(sc:Scope)(x:Str):Prop:=sc.names.lookup x=some .local\/sc.names.lookup x=some .cell
def Look(env:Env)(h:Heap)(m:Z9)(x:Str)(u:Value):Prop :=
 (env.kindOf x=some .local/\m x=some u)\/((env.kindOf x=some .cell\/env.kindOf x=some .free)/\∃c,env.cells.lookup x=some c/\h.IsCell c (some u))
structure Cx.Ok(X:Cx):Prop where
 mod:Mod X.K X.mg X.base
 kind:X.env.scope.kind=.function
 glob:X.env.globals=mainGlobals
 blt:X.env.builtins=builtinsNs
 above:X.s₀.heap.objs.size<=X.env.locals
 inj:∀x y c,X.env.cells.lookup x=some c->X.env.cells.lookup y=some c->x=y
 has:∀x,(X.env.kindOf x=some .cell\/X.env.kindOf x=some .free)->∃c,X.env.cells.lookup x=some c
 cab:∀x c,X.fn x=true->X.env.cells.lookup x=some c->X.s₀.heap.objs.size<=c
 hd:X.calm=true->X.A.handled=none
 frames:X.A.frames=some X.stack
 stk:X.stack=X.outer\/(X.stack=X.env::X.outer/\X.env.frame=some X.env.locals)
 exf:∀b∈X.ex,b≠X.env.locals/\∀x c,X.env.cells.lookup x=some c->c≠b
 bs:∀b o,X.base.get? b=some o->X.s₀.heap.get? b=some o/\X.H₀ b=none
 bsz:X.base.objs.size<=X.s₀.heap.objs.size
 noex:∀b o,X.base.get? b=some o->b∉X.ex
 exfs:∀b∈X.ex,b∉X.fs
 funs:X.s₀.heap.FunFrames X.base X.outer
 frf:∀b∈X.fs,X.H₀ b=none
structure Inv(X:Cx)(pins:Z8)(σ:List (Option V))(H:Hp)(s:Shared):Prop where
 ok:X.Ok
 os:s.os=X.s₀.os
 bare:AllBare s.gens
 base:Un X.fs X.ex X.H₀ H X.s₀.heap s.heap
 loc:∃m,s.heap.Ns X.env.locals m/\∀(i:Nat) (x:Str) (v:V),X.N[i]?=some x->σ[i]?=some (some v)->Vis X.env.scope x->∃u,RelV v u/\Look X.env s.heap m x u
 cell:∀x c,X.env.cells.lookup x=some c->∃v,s.heap.IsCell c v
 free:H X.env.locals=none
 freeC:∀x c,X.env.cells.lookup x=some c->H c=none
 pin:∀p∈X.pn++pins,s.heap.get? p.1=some p.2/\H p.1=none/\p.1≠X.env.locals/\p.1∉X.fs/\∀v,p.2.data≠.cell v
 hok:HOk X.prog X.w H s.heap
 len:σ.length=X.N.length
section
variable{X:Cx}{pins:Z8}{σ:List (Option V)}{H H':Hp}{s:Shared}{h':Heap}
theorem Cx.Ok.nofr(ok:X.Ok){b:Addr}{o:Obj}(e:X.base.get? b=some o):b∉X.fs:=fun a=>by
 have:=(ok.funs.mem a).1
 rw[e]at this;cases this
theorem Inv.bs(I:qI H s):∀b o,X.base.get? b=some o->s.heap.get? b=some o/\H b=none:=fun b o e=>
 ⟨I.base.keep b o (I.ok.bs b o e).1 (I.ok.bs b o e).2 (I.ok.nofr e) (I.ok.noex b o e),I.base.free b o (I.ok.bs b o e).1 (I.ok.bs b o e).2 (I.ok.noex b o e)⟩
theorem Inv.bk(I:qI H s):∀b o,X.base.get? b=some o->s.heap.get? b=some o:=fun b o e=>(I.bs b o e).1
theorem Inv.mod(I:qI H s):Mod X.K X.mg X.base:=I.ok.mod
theorem Inv.kIn(I:qI H s):X.K.In s.heap:=I.ok.mod.kin.keeps I.bk
theorem Inv.lt(I:qI H s):X.env.locals<(qa s):=by obtain⟨_,a,_⟩:=I.loc;exact a.lt
theorem Inv.sz(I:qI H s):X.s₀.heap.objs.size<=(qa s):=jZa I.ok.above (kYd I.lt)
theorem Inv.nofs(I:qI H s){a:Addr}(h:(qa s)<=a):a∉X.fs:=fun b=>by
 obtain⟨_,o,c,_⟩:=I.ok.funs.mem b
 exact Y21 (xJ (yK c) (jZa I.sz h)) (kQd _)
theorem Inv.cne(I:qI H s):∀x c,X.env.cells.lookup x=some c->c≠X.env.locals:=fun x c e z=>by
 obtain⟨v,o,f,d⟩:=I.cell x c e
 obtain⟨m,⟨h,g,i,a,b,_⟩,_⟩:=I.loc
 rw[z,a]at f;cases f;rw[b]at d;cases d
theorem Inv.funs(I:qI H s):s.heap.FunFrames X.base X.outer:=by
 have all:∀(l:List Env),(∀b∈frs l,b∈X.fs)->X.s₀.heap.FunFrames X.base l->s.heap.FunFrames X.base l:=by
  intro l
  induction l with
  |nil=>intro _ _;trivial
  |cons env r ih=>
   intro f j
   obtain⟨g,⟨L,o,a,i,m,h⟩,k⟩:=j
   have c:L∈X.fs:=f L (by unfold frs;rw[yZc,a];exact kY)
   obtain⟨n,e⟩:=I.base.slot L o m (I.ok.frf L c) c fun z=>I.ok.exfs L z c
   exists g,⟨L,_,a,i,e,h⟩,ih (fun b d=>f b (by unfold frs;rw[yZc,a];exact zY _ d)) k
 exact all X.outer (fun _ d=>d) I.ok.funs
theorem Inv.stack(I:qI H s):s.heap.FunFrames X.base X.stack:=by
 rcases I.ok.stk with e | ⟨e,a⟩
 .rw[e];exact I.funs
 .rw[e]
  obtain⟨m,b,_⟩:=I.loc
  refine .cons (by rw[I.ok.kind];decide) a b ?_ I.funs
  exact Heap.get?_none_of_le (jZa I.ok.bsz I.ok.above)
theorem Inv.stkSub(I:qI H s):∀b∈frs X.stack,b∈X.env.locals::X.fs:=fun b a=>by
 rcases I.ok.stk with e | ⟨e,c⟩
 .rw[e]at a;exact zY _ a
 .rw[e]at a
  unfold frs at a
  rw[yZc,c]at a
  exact a
theorem Inv.stkFree(I:qI H s):∀b∈frs X.stack,H b=none:=fun b hb=>by
 rcases zK.mp (I.stkSub b hb)with e | hb
 .rw[e];exact I.free
 .obtain⟨_,o,a,_⟩:=I.ok.funs.mem hb
  exact I.base.free b o a (I.ok.frf b hb) fun z=>I.ok.exfs b z hb
theorem Inv.step{g':Array GenState}{t':Nat}{d':Drawn}{ch:List Addr}(I:qI H s)
  (A:∀b∈ch,(b∈X.ex\/X.s₀.heap.objs.size<=b)/\b≠X.env.locals/\(∀x c,X.env.cells.lookup x=some c->c≠b)/\∀p∈X.pn++pins,p.1≠b)
  (keep:∀b o,b≠X.env.locals->b∉X.fs->b∉ch->s.heap.get? b=some o->H b=none->h'.get? b=some o)
  (D:∀b o,b≠X.env.locals->b∈X.fs->b∉ch->s.heap.get? b=some o->H b=none->∃sl,h'.get? b=some { o with slots:=sl }) (f:∀b o,b∉ch->s.heap.get? b=some o->H b=none->H' b=none)
  (F:∀b o,b∉ch->s.heap.get? b=some o->∃o',h'.get? b=some o')
  (N:∀b xs,H b=some (.tup xs)->H' b=some (.tup xs)) (M:∀b o u,H b=some (.frz o u)->H' b=some (.frz o u)) (J:∀b ps,H b=some (.tbl ps)->∃more,H' b=some (.tbl (ps++more)))
  (ns:∀m,s.heap.Ns X.env.locals m->h'.Ns X.env.locals m) (O:HOk X.prog X.w H' h') (hg:AllBare g') :
  qI H' { s with heap:=h',gens:=g',drawn:=d',toks:=t' }:=by
 have K:∀b o,X.s₀.heap.get? b=some o->b≠X.env.locals:=fun b o e=>zV (xJ (yK e) I.ok.above)
 have C:∀b o,X.s₀.heap.get? b=some o->b∉X.ex->b∉ch:=fun b o e a E=>by
  rcases(A b E).1 with z | z
  .exact a z
  .exact Y21 (xJ (yK e) z) (kQd _)
 have y:∀x c,X.env.cells.lookup x=some c->∀v,s.heap.IsCell c v->h'.IsCell c v:=fun x c e v ⟨o,G,P⟩=>by
  have j:c∉ch:=fun z=>(A c z).2.2.1 x c e rfl
  by_cases S:c∈X.fs
  .obtain⟨sl,q⟩:=D c o (I.cne x c e) S j G (I.freeC x c e)
   exists _,q,P
  .exact⟨o,keep c o (I.cne x c e) S j G (I.freeC x c e),P⟩
 exists I.ok,I.os,hg,⟨fun b o e n E a=>?_,fun b o e n E a=>?_,fun b o e n a=>?_,fun b o e a=>?_,fun b xs e=>N b xs (I.base.tups b xs e),fun b o xs e=>M b o xs (I.base.frzs b o xs e),fun b ps e=>?_⟩,?_,fun x c e=>?_,?_,fun x c e=>?_,fun p T=>?_,O,I.len
 .exact keep b o (K b o e) E (C b o e a) (I.base.keep b o e n E a) (I.base.free b o e n a)
 .obtain⟨sl,B⟩:=I.base.slot b o e n E a
  obtain⟨Q,L⟩:=D b _ (K b o e) E (C b o e a) B (I.base.free b o e n a)
  exists Q,L
 .obtain⟨o',B⟩:=I.base.there b o e a
  exact f b o' (C b o e a) B (I.base.free b o e n a)
 .obtain⟨o',B⟩:=I.base.there b o e a
  exact F b o' (C b o e a) B
 .obtain⟨V,B⟩:=I.base.tbls b ps e
  obtain⟨Y,L⟩:=J b _ B
  exists V++Y,by rw[L,Array.append_assoc]
 .obtain⟨m,U,W⟩:=I.loc
  exists m,ns m U,fun i x v B L Z=>?_
  obtain⟨u,r,l⟩:=W i x v B L Z
  exists u,r,?_
  rcases l with l | ⟨k,c,e,z⟩
  .exact .inl l
  .exact .inr ⟨k,c,e,y x c e _ z⟩
 .obtain⟨v,z⟩:=I.cell x c e
  exists v,y x c e v z
 .obtain⟨m,⟨o,_,_,G,_⟩,_⟩:=I.loc
  exact f _ o (fun z=>(A _ z).2.1 rfl) G I.free
 .obtain⟨v,o,G,P⟩:=I.cell x c e
  exact f c o (fun z=>(A c z).2.2.1 x c e rfl) G (I.freeC x c e)
 .obtain⟨e,n,ne,R,d⟩:=I.pin p T
  have j:p.1∉ch:=fun z=>(A p.1 z).2.2.2 p T rfl
  exists keep p.1 p.2 ne R j e n,f p.1 p.2 j e n,ne,R,d
theorem Inv.un{t':Nat}(I:qI H s)(u:Un X.fs [] H H' s.heap h')(j:HOk X.prog X.w H' h'):qI H' { s with heap:=h',toks:=t' }:=by
 obtain⟨m,⟨o,v,B,k,r⟩,_⟩:=id I.loc
 obtain⟨y,p⟩:=u.any k I.free (by simp)
 exact I.step (g':=s.gens) (d':=s.drawn) (ch:=[]) (fun _ z=>nomatch z) (fun b o _ f _ e n=>u.keep b o e n f (by simp)) (fun b o _ f _ e n=>u.slot b o e n f (by simp)) (fun b o _ e n=>u.free b o e n (by simp)) (fun b o _ e=>u.there b o e (by simp)) u.tups u.frzs u.tbls (fun A q=>by
  obtain⟨x,i,c,a,l⟩:=q
  rw[k]at a;cases a
  exists _,i,c,p,l) j I.bare
theorem Inv.call{g':Array GenState}{t':Nat}{d':Drawn}{ch:List Addr}(I:qI H s)(u:Un (frs X.stack) ch H H' s.heap h')(q:HOk X.prog X.w H' h')(A:AllBare g')
  (i:∀b∈ch,(b∈X.ex\/X.s₀.heap.objs.size<=b)/\b≠X.env.locals/\(∀x c,X.env.cells.lookup x=some c->c≠b)/\∀p∈X.pn++pins,p.1≠b) :
  qI H' { s with heap:=h',gens:=g',drawn:=d',toks:=t' }:=by
 obtain⟨m,⟨o,D,J,v,r⟩,_⟩:=id I.loc
 obtain⟨F,k⟩:=u.any v I.free fun z=>(i _ z).2.1 rfl
 exact I.step (ch:=ch) i (fun b o k B a e n=>u.keep b o e n (fun z=>(zK.mp (I.stkSub b z)).elim k B) a) (fun b o _ _ a e n=>u.any e n a) (fun b o a e n=>u.free b o e n a) (fun b o a e=>u.there b o e a) u.tups u.frzs u.tbls (fun G C=>by
  obtain⟨E,l,j,f,y⟩:=C
  rw[v]at f;cases f
  exists _,l,j,k,y) q A
theorem Inv.turned{t':Nat}{it:Addr}(I:qI H s)(k:∀b o,b≠it->s.heap.get? b=some o->h'.get? b=some o)(y:H it=none)(i:it≠X.env.locals)
  (D:it∈X.ex\/X.s₀.heap.objs.size<=it) (w:∀x c,X.env.cells.lookup x=some c->c≠it) (j:∀p∈X.pn++pins,p.1≠it):qI H { s with heap:=h',toks:=t' }:=by
 have f:∀b u,H b=some u->b≠it:=fun b u e z=>by rw[z,y]at e;cases e
 refine I.step (g':=s.gens) (d':=s.drawn) (ch:=[it]) (fun b A=>?_) (fun b o _ _ a e _=>k b o (fun z=>a (by simp[z])) e) (fun b o _ _ a e _=>⟨o.slots,k b o (fun z=>a (by simp[z])) e⟩) (fun _ _ _ _ n=>n)
  (fun b o a e=>⟨o,k b o (fun z=>a (by simp[z])) e⟩) (fun _ _ e=>e) (fun _ _ _ e=>e) (fun b F e=>⟨#[],by rw[e];simp⟩) (fun m B=>?_) (fun b u e=>?_) I.bare
 .have e:b=it:=by simpa using A
  subst e
  exists D,i,w,j
 .obtain⟨o,l,E,C,r⟩:=B
  exists o,l,E,k _ o (Ne.symm i) C,r
 .refine(I.hok b u e).stay (fun c v a q=>k c v ?_ q) (fun _ q=>q) fun _ _ q=>q
  rcases a with z | z
  .rw[z];exact f b u e
  .exact f c _ z
theorem Inv.tok(I:qI H s)(t:Nat):qI H { s with toks:=t }:=I.un (h':=s.heap) (t':=t) Un.refl I.hok
theorem Inv.kept{t':Nat}(I:qI H s)(k:∀b u,s.heap.get? b=some u->h'.get? b=some u):qI H { s with heap:=h',toks:=t' }:=I.un (Un.kept k) (I.hok.kept k)
theorem Inv.laid{a:Addr}{o:HO}{t':Nat}(I:qI H s)(k:∀b u,s.heap.get? b=some u->h'.get? b=some u)(c:(qa s)<=a)(new:ObjOk X.prog X.w (upd H a o) h' a o) :
  qI (upd H a o) { s with heap:=h',toks:=t' }:=I.un (Un.laid k c (I.hok.fresh c)) (I.hok.laid k c new)
theorem Inv.write{x e:Addr}{o:HO}{t':Nat}(I:qI H s)(c:Mut (H x))(he:e=x\/H e=some (.own x))(k:∀b u,b≠e->s.heap.get? b=some u->h'.get? b=some u)(a:∃u,h'.get? e=some u)
  (new:ObjOk X.prog X.w (upd H x o) h' x o):qI (upd H x o) { s with heap:=h',toks:=t' }:=I.un (Un.write c he k a) (I.hok.write c he k a new)
theorem Inv.pins_of{pins':Z8}(I:qI H s)(h:∀p∈pins',s.heap.get? p.1=some p.2/\H p.1=none/\p.1≠X.env.locals/\p.1∉X.fs/\∀v,p.2.data≠.cell v):Inv X pins' σ H s :=
 ⟨I.ok,I.os,I.bare,I.base,I.loc,I.cell,I.free,I.freeC,fun p a=>(xW.mp a).elim (fun z=>I.pin p (kQa _ z)) (h p),I.hok,I.len⟩
theorem Qjt{N:List Str}(c:N.Nodup){i j:Nat}{x:Str}(a:N[i]?=some x)(b:N[j]?=some x):i=j:=by
 obtain⟨g,e⟩:=jW.mp a
 obtain⟨f,d⟩:=jW.mp b
 exact(List.getElem_inj c).mp (e.trans d.symm)
theorem Qgd{M:Model}{A:Around}{E:VP}{i:Nat}{x:Str}{v:V}{u:Value}{Q:Unit->Shared->Prop}(I:qI H s)(hN:X.N.Nodup)(L:X.N[i]?=some x)(t:Loc X.env.scope x)(r:RelV v u)
  (h:∀s',Inv X pins (σ.set i (some v)) H s'->(∃a,Heap.SameBut a s.heap s'.heap/\(a=X.env.locals\/X.env.cells.lookup x=some a))->Q () s') (hf:autoParam (X.fn x=true\/qh X x=some .local) J3._auto_1):wpAny M A (storeName X.env x u) Q E s:=by
 obtain⟨m,Y,hl⟩:=id I.loc
 have T:(X.env.scope.kind == .class||(X.env.scope.kind == .module&&X.env.locals != X.env.globals))=false:=by rw[I.ok.kind];rfl
 have D:i<σ.length:=by rw[I.len];exact(jW.mp L).1
 have cne:=I.cne
 have g:∀{a:Addr} {K:Heap},(∃o,s.heap.get? a=some o/\H a=none)->Heap.SameBut a s.heap K->HOk X.prog X.w H K:=fun{a K} ha f b ob e=>by
  obtain⟨_,_,B⟩:=ha
  refine(I.hok b ob e).stay (fun c W hc q=>(f.2 c ?_).trans q) (fun _ q=>q) fun _ _ q=>q
  rintro rfl
  rcases hc with rfl | hc
  .rw[B]at e;cases e
  .rw[B]at hc;cases hc
 rcases t with hk | hk
 .refine wpAny_storeName_local hk Y (fun K aa f=>?_) T
  obtain⟨oL,_,_,ab,_⟩:=id Y
  refine h _ ⟨I.ok,I.os,I.bare,⟨fun b o e n F t=>?_,fun b o e n F t=>?_,I.base.free,fun b o e t=>?_,I.base.tups,I.base.frzs,I.base.tbls⟩,⟨_,aa,fun j y v' l C e3=>?_⟩,fun y c e=>?_,I.free,I.freeC,fun p hp=>?_,g ⟨oL,ab,I.free⟩ f,by simpa using I.len⟩ ⟨_,f,.inl rfl⟩
  .exact(f.2 b (zV (xJ (yK e) I.ok.above))).trans (I.base.keep b o e n F t)
  .obtain⟨sl,l⟩:=I.base.slot b o e n F t
   exists sl,(f.2 b (zV (xJ (yK e) I.ok.above))).trans l
  .obtain⟨o',l⟩:=I.base.there b o e t
   exists o',(f.2 b (zV (xJ (yK e) I.ok.above))).trans l
  .by_cases J:j=i
   .subst J
    rw[L]at l;cases l
    rw[yXb D]at C
    cases C
    exists u,r,.inl ⟨hk,by simp⟩
   .rw[yYe (Ne.symm J)]at C
    obtain⟨u',r',q⟩:=hl j y v' l C e3
    exists u',r',?_
    rcases q with⟨k,e⟩ | ⟨k,c,e,z⟩
    .refine .inl ⟨k,?_⟩
     have:y≠x:=fun e=>J (Qjt hN l (e▸L))
     simp[this,e]
    .exact .inr ⟨k,c,e,z.sameBut f (cne y c e)⟩
  .obtain⟨W,z⟩:=I.cell y c e
   exists W,z.sameBut f (cne y c e)
  .obtain⟨e,n,ne,Z,d⟩:=I.pin p hp
   exists (f.2 p.1 ne).trans e,n,ne,Z,d
 .have G:X.fn x=true:=by
   rcases hf with z | z
   .exact z
   .rw[z]at hk;cases hk
  obtain⟨c,hc⟩:=I.ok.has x (.inl hk)
  obtain⟨W,z⟩:=I.cell x c hc
  refine wpAny_storeName_cell I.ok.kind hk hc z (fun K O f=>?_)
  obtain⟨oc,P,S⟩:=id z
  refine h { s with heap:=K } ⟨I.ok,I.os,I.bare,⟨fun b o e n F t=>?_,fun b o e n F t=>?_,I.base.free,fun b o e t=>?_,I.base.tups,I.base.frzs,I.base.tbls⟩,⟨m,Y.sameBut f (Ne.symm (cne x c hc)),fun j y v' l C e3=>?_⟩,fun y U e=>?_,I.free,I.freeC,fun p hp=>?_,g ⟨oc,P,I.freeC x c hc⟩ f,by simpa using I.len⟩ ⟨c,f,.inr hc⟩
  .exact(f.2 b (zV (xJ (yK e) (I.ok.cab x c G hc)))).trans (I.base.keep b o e n F t)
  .obtain⟨sl,l⟩:=I.base.slot b o e n F t
   exists sl,(f.2 b (zV (xJ (yK e) (I.ok.cab x c G hc)))).trans l
  .obtain⟨o',l⟩:=I.base.there b o e t
   exists o',(f.2 b (zV (xJ (yK e) (I.ok.cab x c G hc)))).trans l
  .by_cases J:j=i
   .subst J
    rw[L]at l;cases l
    rw[yXb D]at C
    cases C
    exists u,r,.inr ⟨.inl hk,c,hc,O⟩
   .rw[yYe (Ne.symm J)]at C
    obtain⟨u',r',q⟩:=hl j y v' l C e3
    exists u',r',?_
    rcases q with q | ⟨k,U,e,z'⟩
    .exact .inl q
    .refine .inr ⟨k,U,e,z'.sameBut f ?_⟩
     rintro rfl
     exact J (Qjt hN l (I.ok.inj _ _ _ e hc▸L))
  .by_cases R:U=c
   .subst R;exists _,O
   .obtain⟨w2,z2⟩:=I.cell y U e
    exists w2,z2.sameBut f R
  .obtain⟨e,n,ne,Z,d⟩:=I.pin p hp
   exists (f.2 p.1 ?_).trans e,n,ne,Z,d
   intro q
   rw[q,P]at e
   have q':oc=p.2:=Y5 e
   exact d W (by rw[<-q'];exact S)
theorem Qef{M:Model}{A:Around}{E:VP}{i:Nat}{x:Str}{v:V}{u:Value}{Q:Unit->Shared->Prop}(I:qI H s)(b:X.N.Nodup)(d:X.N[i]?=some x)(e:Loc X.env.scope x)(r:RelV v u)
  (h:∀s',Inv X pins (σ.set i (some v)) H s'->Q () s') (a:autoParam (X.fn x=true\/qh X x=some .local) J3._auto_1):wpAny M A (storeName X.env x u) Q E s :=
 Qgd I b d e r (fun s' c _=>h s' c) a
theorem Inv.call'{s':Shared}{ch:List Addr}(I:qI H s)(k:s'.os=s.os)(u:Un (frs X.stack) ch H H' s.heap s'.heap)(a:HOk X.prog X.w H' s'.heap)(i:AllBare s'.gens)
  (f:∀b∈ch,(b∈X.ex\/X.s₀.heap.objs.size<=b)/\b≠X.env.locals/\(∀x c,X.env.cells.lookup x=some c->c≠b)/\∀p∈X.pn++pins,p.1≠b):qI H' s':=by
 obtain⟨l,g',d',t',j⟩:=s'
 have e:j=s.os:=k
 subst e
 exact I.call (g':=g') (t':=t') (d':=d') u a i f
end
end L2
section
variable{p:Array Nat}{n c t' i j B m kk B' mask:Nat}{xs ys vs zs ws:List L2.V}{us its its':List PySem.Value}{H H' H1 H0:L2.Hp}{a b it g f l aT aL:PySem.Addr}{u doc pm cdv ct oc:PySem.Value}{P:PySem.Program}{w:PySem.World}{h base h':PySem.Heap}{x qual:PySem.Str}{N loose:List PySem.Str}{A:PySem.Around}{E:VP}{v y z:L2.V}{X:L2.Cx}{e tg iter elt:PySem.Expr}{s:PySem.Shared}{pos pos' tp:PySem.Pos}{pins:Z8}{Q:Bool->PySem.Shared->Prop}{t:List Nat}{es ifs:List PySem.Expr}{K:Fg}{lo:Int}{fp:List PySem.Addr}{r:List Int×Int}{mg fT fL:Z9}{fd:PySem.FuncData}{ps:List (Int×L2.V)}{scope:PySem.Scope}{an od:Option PySem.Addr}{osl:Array (Option PySem.Value)}{hi best:Option Int}{ns cs ms ks ss:List Int}{T:String}{cp:List (Option Nat)}{m1 m2:Bool}{kvs:List (L2.Key×L2.V)}{items2:Array PySem.Value}{hs:List (Int×Int)}{qs:List (Nat×Int)}{o':L2.HO}
namespace L2
open PySem PySem.Spec PyProof.Rows
abbrev XK:=Value->Option Addr->Hp->Prop
abbrev St:=List (Option V)
abbrev VK:=V->Hp->Prop
abbrev TE:=St->Hp->VK->Prop
abbrev TT:=St->Hp->(Bool->Hp->Prop)->Prop
abbrev TA:=St->Hp->(List V->Hp->Prop)->Prop
set_option genInjectivity false in
set_option genInjectivity false in
structure Ends where
 nx:St->Hp->Prop
 rt:VK
 bk:St->Hp->Prop:=fun _ _=>False
 ct:St->Hp->Prop:=fun _ _=>False
abbrev TS:=Ends->St->Hp->Prop
def EP(X:Cx)(pins:Z8)(σ:St)(Q:VK)(u:Value)(s':Shared):Prop:=∃v H',qI H' s'/\RelV v u/\Q v H'
def TP(X:Cx)(pins:Z8)(σ:St)(Q:Bool->Hp->Prop)(b:Bool)(s':Shared):Prop:=∃H',qI H' s'/\Q b H'
def AP(X:Cx)(pins:Z8)(σ:St)(Q:List V->Hp->Prop)(us:List Value)(s':Shared):Prop:=∃vs H',qI H' s'/\Vals vs us/\Q vs H'
def SP(X:Cx)(pins:Z8)(D:Ends)(f:Flow)(s':Shared):Prop :=
 match f with
 |.next=>∃σ' H',Inv X pins σ' H' s'/\D.nx σ' H'
 |.brk=>∃σ' H',Inv X pins σ' H' s'/\D.bk σ' H'
 |.cont=>∃σ' H',Inv X pins σ' H' s'/\D.ct σ' H'
 |.ret u=>∃v σ' H',Inv X pins σ' H' s'/\RelV v u/\D.rt v H'
def PE(X:Cx)(e:Expr)(t:TE):Prop :=
 ∀(pins:Z8) (s:Shared) (σ:St) (H:Hp) (Q:VK),qI H s->t σ H Q->qd X X.A (eval e X.env) (EP X pins σ Q) X.xe s
def PT(X:Cx)(e:Expr)(t:TT):Prop :=
 ∀(pins:Z8) (s:Shared) (σ:St) (H:Hp) (Q:Bool->Hp->Prop),qI H s->t σ H Q->qd X X.A (isTrue e X.env (eval e X.env)) (TP X pins σ Q) X.xe s
def PW(X:Cx)(e:Expr)(t:TT):Prop :=
 ∀(whole:Sem Value) (pins:Z8) (s:Shared) (σ:St) (H:Hp) (Q:Bool->Hp->Prop),qI H s->t σ H Q->qd X X.A (isTrue e X.env whole) (TP X pins σ Q) X.xe s
theorem PW.pt{t:TT}(h:PW X e t):PT X e t:=h _
def PA(X:Cx)(es:List Expr)(t:TA):Prop :=
 ∀(pos:Pos) (pins:Z8) (s:Shared) (σ:St) (H:Hp) (Q:List V->Hp->Prop),qI H s->t σ H Q->qd X X.A (spliced (backTo pos (starEach es X.env))) (AP X pins σ Q) X.xe s
def PS(X:Cx)(st:Stmt)(t:TS):Prop :=
 ∀(pins:Z8) (s:Shared) (σ:St) (H:Hp) (D:Ends),qI H s->t D σ H->qd X X.A (exec st X.env) (SP X pins D) X.xe s
def PSs(X:Cx)(st:List Stmt)(t:TS):Prop :=
 ∀(pins:Z8) (s:Shared) (σ:St) (H:Hp) (D:Ends),qI H s->t D σ H->qd X X.A (execs st X.env) (SP X pins D) X.xe s
theorem thn{α:Type}{t:Sem α}{Q Q':α->Shared->Prop}{M:Model}(h:wpAny M A t Q E s)(b:∀a s,Q a s->Q' a s):wpAny M A t Q' E s:=Y29 h b fun _ _ x=>x
section
inductive tVar(i:Nat)(σ:St)(H:Hp)(Q:VK):Prop|mk(v:V)(h:σ[i]?=some (some v))(q:Q v H):tVar i σ H Q
def tC(v:V):TE:=fun _ H Q=>Q v H
theorem pe_var(g:X.N[i]?=some x)(hv:Vis X.env.scope x)(hd:qc ((x == ("__debug__":Str))=false))(d:qc ((x == ("__classdict__":Str))=false)):PE X (.Name x pos) (tVar i):=by
 intro b s k H Q I h
 obtain⟨v,e,h⟩:=h
 obtain⟨m,j,n⟩:=I.loc
 obtain⟨u,r,l⟩:=n i x v g e hv
 have fin:EP X b k Q u s:=⟨v,H,I,r,h⟩
 rcases l with⟨hk,o⟩ | ⟨hk,c,f,a⟩
 .exact wpAny_Name (wpAny_loadName_local I.ok.kind hk j o fin) hd
 .rcases hk with hk | hk
  .exact wpAny_Name (wpAny_loadName_cell I.ok.kind hk f a fin) hd
  .exact wpAny_Name (wpAny_loadName_free I.ok.kind hk f a fin d) hd
theorem Qd{i j pos}:PE X (.Constant (.int i) j pos) (tC (.int i)):=fun _ _ _ H _ I h=>wpAny_Constant_int ⟨.int i,H,I.tok _,⟨_,rfl⟩,h⟩
theorem Qbq{b j pos}:PE X (.Constant (.bool b) j pos) (tC (.bl b)):=fun _ _ _ H _ I h=>Constant_bool ⟨.bl b,H,I,rfl,h⟩
theorem Xk{j pos}:PE X (.Constant .none j pos) (tC .non):=fun _ _ _ H _ I h=>Constant_none ⟨.non,H,I,rfl,h⟩
theorem Xi{x j pos}:PE X (.Constant (.str x) j pos) (tC (.str x)):=fun _ _ _ H _ I h=>Calls.Constant_str ⟨.str x,H,I.tok _,⟨_,rfl⟩,h⟩
def Gl(X:Cx)(x:Str):Prop:=X.env.kindOf x=some .globalImplicit
theorem Qii{σ:St}{Q:VP}(I:qI H s)(b:Gl X x)(a:X.mg x=some u)(h:Q u s)
  (hd:qc ((x == ("__debug__":Str))=false)):qd X X.A (eval (.Name x pos) X.env) Q E s :=
 Calls.Name_function_global I.ok.kind b (Calls.loadGlobal_global (by rw[I.ok.glob];exact I.mod.glob.keeps I.bk) a h) hd
theorem Vm{σ:St}{Q:VP}(I:qI H s)(a:Gl X x)(d:X.mg x=none)(hv:bootBuiltins x=some u)(h:Q u s)
  (c:qc (x≠"__name__")) (hd:qc ((x == ("__debug__":Str))=false)):qd X X.A (eval (.Name x pos) X.env) Q E s:=by
 obtain⟨f,e,b⟩:=I.mod.blt
 exact Calls.Name_function_global I.ok.kind a (Calls.loadGlobal_builtin (by rw[I.ok.glob];exact I.mod.glob.keeps I.bk) d (by rw[I.ok.blt];exact e.keeps I.bk) ((b x c).trans hv) h) hd
theorem Qij(b:Gl X x)(a:X.mg x=some u)(r:RelV v u)(hd:qc ((x == ("__debug__":Str))=false)):PE X (.Name x pos) (tC v) :=
 fun _ _ _ H _ I h=>Qii I b a ⟨v,H,I,r,h⟩ hd
theorem Qwh(b:Gl X x)(a:X.mg x=none)(hv:bootBuiltins x=some u)(r:RelV v u)(c:qc (x≠"__name__"))(hd:qc ((x == ("__debug__":Str))=false)):PE X (.Name x pos) (tC v) :=
 fun _ _ _ H _ I h=>Vm I b a hv ⟨v,H,I,r,h⟩ c hd
variable{a b:Expr}{ta tb:TE}
def PC(X:Cx)(op:CmpOp)(a b:Expr)(t:TE):Prop :=
 ∀(pins:Z8) (s:Shared) (σ:St) (H:Hp) (Q:VK),qI H s->t σ H Q ->
  qd X X.A (eval a X.env) (fun v s₁=>qd X X.A (eval b X.env) (fun u s₂=>qd X X.A (compareOp op v u) (EP X pins σ Q) X.xe s₂) X.xe s₁) X.xe s
def tB(t:TE):TT:=fun σ H Q=>t σ H fun x H1=>∃c,x=.bl c/\Q c H1
theorem Qve{op:CmpOp}{t:TE}(h:PC X op a b t)(g:behindInMarks op b=false:=by first | exact nobehind _ Dc Dc | rfl):PT X (.Compare a [op] [b] pos) (tB t):=by
 intro e s l H Q I o
 refine wpAny_isTrue_Compare1 (thn (h e s l H _ I o) fun v p g=>thn g fun u r i=>thn i fun c w f=>?_) g
 obtain⟨x,j,k,m,n⟩:=f
 obtain⟨d,rfl,q⟩:=n
 cases m
 exact Y31 ⟨j,k,q⟩
theorem Xj{t:TE}(h:PE X e t)(he:autoParam (∀whole,isTrue e X.env whole=(do let v ← whole;standAt e.pos;holding [v] (truthy v))) J4._auto_1):PT X e (tB t):=by
 intro a s g H Q I k
 refine isTrue_plain (thn (h a s g H _ I k) fun v l b=>?_) (he _)
 obtain⟨x,c,f,i,j⟩:=b
 obtain⟨d,rfl,q⟩:=j
 cases i
 exact Y31 ⟨c,f,q⟩
variable{tA tB':TT}{rest:List Expr}
def tAnd(t u:TT):TT:=fun σ H Q=>t σ H fun c H1=>if c=true then u σ H1 Q else Q false H1
def tOr(t u:TT):TT:=fun σ H Q=>t σ H fun c H1=>if c=true then Q true H1 else u σ H1 Q
def tNot(t:TT):TT:=fun σ H Q=>t σ H fun c H1=>Q (!c) H1
theorem Ju(d:PT X a tA):PW X (.BoolOp .And [a] pos) tA:=by
 intro i b s f H Q I h
 refine isTrue_and (thn (d b s f H Q I h) fun c g e=>?_)
 cases c with
 |true=>exact isTrue_and_nil e
 |false=>exact e
theorem Yh(d:PT X a tA):PW X (.BoolOp .Or [a] pos) tA:=by
 intro i b s f H Q I h
 refine isTrue_or (thn (d b s f H Q I h) fun c g e=>?_)
 cases c with
 |false=>exact isTrue_or_nil e
 |true=>exact e
theorem Kn(k:PT X a tA)(l:PW X (.BoolOp .And (b::rest) pos) tB'):PW X (.BoolOp .And (a::b::rest) pos) (tAnd tA tB'):=by
 intro n d s i H Q I h
 refine isTrue_and (thn (k d s i H _ I h) fun c m e=>?_)
 obtain⟨f,g,j⟩:=e
 cases c with
 |true=>exact l n d m i f Q g j
 |false=>exists f,g,j
theorem Yv(k:PT X a tA)(l:PW X (.BoolOp .Or (b::rest) pos) tB'):PW X (.BoolOp .Or (a::b::rest) pos) (tOr tA tB'):=by
 intro n d s i H Q I h
 refine isTrue_or (thn (k d s i H _ I h) fun c m e=>?_)
 obtain⟨f,g,j⟩:=e
 cases c with
 |true=>exists f,g,j
 |false=>exact l n d m i f Q g j
theorem Xq(d:PT X a tA):PT X (.UnaryOp .Not a pos) (tNot tA):=by
 intro b s f H Q I h
 exact isTrue_not (d b s f H (fun c e=>Q (!c) e) I h)
def tAndV(ta tb:TE):TE:=fun σ H Q=>ta σ H fun x H1=>∃c,x=.bl c/\if c=true then tb σ H1 Q else Q (.bl false) H1
def tNotV(ta:TE):TE:=fun σ H Q=>ta σ H fun x H1=>∃c,x=.bl c/\Q (.bl (!c)) H1
theorem Qao{op}{t:TE}(h:PE X a t):PE X (.BoolOp op [a] pos) t:=fun b s d H Q I c=>BoolOp_one (h b s d H Q I c)
theorem Jq(k:PE X a ta)(l:PE X (.BoolOp .And (b::rest) pos) tb):PE X (.BoolOp .And (a::b::rest) pos) (tAndV ta tb):=by
 intro d s j H Q I h
 refine BoolOp_and (thn (k d s j H _ I h) fun v n f=>?_)
 obtain⟨x,g,i,m,e⟩:=f
 obtain⟨c,rfl,e⟩:=e
 cases m
 refine Y31 ?_
 cases c with
 |true=>exact l d n j g Q i e
 |false=>exists .bl false,g,i,rfl,e
theorem Qvf(i:PE X a ta):PE X (.UnaryOp .Not a pos) (tNotV ta):=by
 intro b s j H Q I h
 refine UnaryOp_ (thn (i b s j H _ I h) fun v l d=>?_)
 obtain⟨x,f,g,k,e⟩:=d
 obtain⟨c,rfl,e⟩:=e
 cases k
 exact not_of (Y31 ⟨.bl (!c),f,g,rfl,e⟩)
def tIf(t:TT)(ta tb:TE):TE:=fun σ H Q=>t σ H fun c H1=>if c=true then ta σ H1 Q else tb σ H1 Q
theorem Qju{c:Expr}(n:PT X c tA)(m:PE X a ta)(o:PE X b tb):PE X (.IfExp c a b pos) (tIf tA ta tb):=by
 intro e s g H Q I h
 refine wpAny_IfExp (thn (n e s g H _ I h) fun d l f=>?_)
 obtain⟨i,j,k⟩:=f
 cases d with
 |true=>exact m e l g i Q j k
 |false=>exact o e l g i Q j k
end
def SqL(K:Fg)(H:Hp)(a:Addr)(xs:List V):Prop :=
 Rd H a (.lst xs) \/
  ∃(o:Obj) (its:Array Value) (n:Nat),K.lookup a=some o/\o.cls=.type "list"/\o.dict=none/\o.data=.seq its n/\its.size<=sizeLine/\Vals xs its.toList
def SqT(K:Fg)(H:Hp)(a:Addr)(xs:List V):Prop :=
 Rd H a (.tup xs) \/
  ∃(o:Obj) (its:Array Value) (n:Nat),K.lookup a=some o/\o.cls=.type "tuple"/\o.data=.seq its n/\its.size<=sizeLine/\Vals xs its.toList
def absV:Value->Option V
 |.none=>some .non
 |.bool b=>some (.bl b)
 |.int i _=>some (.int i)
 |.str x _=>some (.str x)
 |.bytes b _=>some (.byt b)
 |.float b _=>some (.flt b)
 |.ref a=>some (.ref a)
 |.type n=>some (.ty n)
 |_=>none
theorem RelV.abs{x:V}(r:RelV x u):absV u=some x:=by
 cases x with
 |non=>cases r;rfl
 |bl _=>cases r;rfl
 |int _=>obtain⟨t,rfl⟩:=r;rfl
 |str _=>obtain⟨t,rfl⟩:=r;rfl
 |byt _=>obtain⟨t,rfl⟩:=r;rfl
 |flt _=>obtain⟨t,rfl⟩:=r;rfl
 |ref _=>cases r;rfl
 |ty _=>cases r;rfl
theorem RelV.inj{x:V}(r:RelV x u)(q:RelV y u):x=y:=Y5 (r.abs.symm.trans q.abs)
theorem Vals.inj(h:Vals xs us)(g:Vals ys us):xs=ys:=by
 induction h generalizing ys with
 |nil=>cases g;rfl
 |cons r t ih=>
  cases g with
  |cons r' t'=>rw[r.inj r',ih t']
section
variable{σ:St}
theorem Inv.list(I:qI H s)(h:SqL X.K H a xs):∃its:List Value,Vals xs its/\PlainL s.heap a its.toArray/\xs.length<=sizeLine:=by
 rcases h with h | ⟨o,its,n,b,d,c,f,g,r⟩
 .obtain⟨z,its,n,r,e⟩:=h.ok I.hok
  exists its,r,⟨_,n,e,rfl,rfl,rfl⟩,z
 .refine⟨its.toList,r,⟨o,n,I.kIn a o b,d,c,by simpa using f⟩,?_⟩
  have e:=r.length
  simp only[xX]at e
  lia
theorem Inv.tuple(I:qI H s)(h:SqT X.K H a xs):∃its:List Value,Vals xs its/\IsTup s.heap a its.toArray/\xs.length<=sizeLine:=by
 rcases h with h | ⟨o,its,n,b,d,c,f,r⟩
 .obtain⟨z,its,r,p⟩:=h.ok I.hok
  exists its,r,p,z
 .refine⟨its.toList,r,⟨o,I.kIn a o b,d,n,by simpa using c⟩,?_⟩
  have e:=r.length
  simp only[xX]at e
  lia
theorem Inv.list_inj(I:qI H s)(h:SqL X.K H a xs)(h':SqL X.K H a ys):xs=ys:=by
 obtain⟨c,r,⟨o,n,e,_,_,d⟩,_⟩:=I.list h
 obtain⟨b,j,⟨k,l,g,_,_,f⟩,_⟩:=I.list h'
 rw[e]at g;cases g
 rw[d]at f
 injection f with i _
 have:c=b:=by simpa using congrArg Array.toList i
 subst this
 exact r.inj j
theorem Inv.tuple_inj(I:qI H s)(h:SqT X.K H a xs)(h':SqT X.K H a ys):xs=ys:=by
 obtain⟨c,r,⟨o,e,_,n,d⟩,_⟩:=I.tuple h
 obtain⟨b,j,⟨k,g,_,l,f⟩,_⟩:=I.tuple h'
 rw[e]at g;cases g
 rw[d]at f
 injection f with i _
 have:c=b:=by simpa using congrArg Array.toList i
 subst this
 exact r.inj j
end
abbrev Cx.wish(X:Cx)(E:VP):Cx:={ X with xe:=E }
abbrev Cx.nox(X:Cx):Cx:=X.wish fun _ _=>False
theorem Cx.Ok.wish(ok:X.Ok)(E:VP):(X.wish E).Ok :=
 ⟨ok.mod,ok.kind,ok.glob,ok.blt,ok.above,ok.inj,ok.has,ok.cab,ok.hd,ok.frames,ok.stk,ok.exf,ok.bs,ok.bsz,ok.noex,ok.exfs,ok.funs,ok.frf⟩
theorem Cx.Ok.unwish(ok:(X.wish E).Ok):X.Ok :=
 ⟨ok.mod,ok.kind,ok.glob,ok.blt,ok.above,ok.inj,ok.has,ok.cab,ok.hd,ok.frames,ok.stk,ok.exf,ok.bs,ok.bsz,ok.noex,ok.exfs,ok.funs,ok.frf⟩
section
variable{σ:St}
theorem Inv.wish(I:qI H s)(E:VP):Inv (X.wish E) pins σ H s:=⟨I.ok.wish E,I.os,I.bare,I.base,I.loc,I.cell,I.free,I.freeC,I.pin,I.hok,I.len⟩
theorem Inv.unwish(I:Inv (X.wish E) pins σ H s):qI H s:=⟨I.ok.unwish,I.os,I.bare,I.base,I.loc,I.cell,I.free,I.freeC,I.pin,I.hok,I.len⟩
theorem SP.unwish{D:Ends}{f:Flow}{s':Shared}(h:SP (X.wish E) pins D f s'):SP X pins D f s':=by
 cases f with
 |next=>obtain⟨a,b,I,q⟩:=h;exists a,b,I.unwish,q
 |brk=>obtain⟨a,b,I,q⟩:=h;exists a,b,I.unwish,q
 |cont=>obtain⟨a,b,I,q⟩:=h;exists a,b,I.unwish,q
 |ret u=>obtain⟨v,a,b,I,r,q⟩:=h;exists v,a,b,I.unwish,r,q
theorem PSs.nox{st:List Stmt}{t:TS}(h:PSs X.nox st t):PSs X st t:=fun a s c H D I b=>
 Y29 (h a s c H D (I.wish _) b) (fun _ _ q=>q.unwish) fun _ _ z=>False.elim z
end
section
variable{st:Stmt}{rest:List Stmt}{t u:TS}{te:TE}
def tNext:TS:=fun D σ H=>D.nx σ H
def tSeq(t u:TS):TS:=fun D σ H=>t { D with nx:=u D } σ H
theorem Qr:PSs X [] tNext:=fun _ _ a H _ I h=>wpAny_execs_nil ⟨a,H,I,h⟩
theorem Qe(i:PS X st t)(d:PSs X rest u):PSs X (st::rest) (tSeq t u):=by
 intro a s e H D I h
 refine wpAny_execs_cons (thn (i a s e H { D with nx:=u D } I h) fun f c q=>?_)
 cases f with
 |next=>
  obtain⟨b,j,g,q⟩:=q
  exact d a c b j D g q
 |ret v=>exact q
 |brk=>exact q
 |cont=>exact q
theorem Qh(b:PS X st t):PSs X [st] t:=by
 intro a s c H D I h
 refine wpAny_execs_cons (thn (b a s c H D I h) fun f d q=>?_)
 cases f with
 |next=>exact wpAny_execs_nil q
 |ret v=>exact q
 |brk=>exact q
 |cont=>exact q
def tBreak:TS:=fun D σ H=>D.bk σ H
theorem Qsc:PS X (.Break pos) tBreak:=fun _ _ a H _ I h=>wpAny_Break ⟨a,H,I,h⟩
theorem Inv.quiet{σ:St}(I:qI H s):interactive X.env=false:=by simp[interactive,I.ok.kind]
def tDrop(te:TE):TS:=fun D σ H=>te σ H fun _ H1=>D.nx σ H1
theorem Zj(he:PE X e te)(c:qb (swapsWith e none pos.line X.env=pure false)):PS X (.Expr e pos) (tDrop te):=by
 intro a s b H D I h
 exact wpAny_Expr_any (thn (he a s b H _ I h) fun v s1 ⟨x,H1,I1,r1,q1⟩=>⟨b,H1,I1,q1⟩) I.quiet c
def tRet(te:TE):TS:=fun D σ H=>te σ H D.rt
theorem Qp(he:PE X e te):PS X (.Return (some e) pos) (tRet te):=by
 intro a s b H D I h
 exact wpAny_Return_some (thn (he a s b H _ I h) fun v s1 ⟨x,H1,I1,r1,q1⟩=>⟨x,b,H1,I1,r1,q1⟩)
def tIfS(c:TT)(t u:TS):TS:=fun D σ H=>c σ H fun b H1=>if b=true then t D σ H1 else u D σ H1
theorem Xe{c:Expr}{a b:List Stmt}{tc:TT}(n:PT X c tc)(m:PSs X a t)(o:PSs X b u):PS X (.If c a b pos) (tIfS tc t u):=by
 intro e s g H D I h
 refine wpAny_If (thn (n e s g H _ I h) fun d l f=>?_)
 obtain⟨i,j,k⟩:=f
 cases d with
 |true=>exact m e l g i D j k
 |false=>exact o e l g i D j k
end
abbrev TG:=V->St->Hp->(St->Hp->Prop)->Prop
abbrev TGs:=List V->St->Hp->(St->Hp->Prop)->Prop
def PG(X:Cx)(target:Expr)(t:TG):Prop :=
 ∀(pins:Z8) (s:Shared) (σ:St) (H:Hp) (v:V) (u:Value) (Q:St->Hp->Prop),qI H s->RelV v u->t v σ H Q ->
  qd X X.A (assign target X.env u) (fun _ s'=>∃σ' H',Inv X pins σ' H' s'/\Q σ' H') X.xe s
def PGs(X:Cx)(ts:List Expr)(t:TGs):Prop :=
 ∀(pins:Z8) (s:Shared) (σ:St) (H:Hp) (vs:List V) (us:List Value) (Q:St->Hp->Prop),qI H s->Vals vs us->t vs σ H Q ->
  qd X X.A (assignInOrder ((assignEach ts X.env).map (·.2)) us) (fun _ s'=>∃σ' H',Inv X pins σ' H' s'/\Q σ' H') X.xe s
abbrev TSet:=V->V->V->Hp->(Hp->Prop)->Prop
def PSet(X:Cx)(t:TSet):Prop :=
 ∀(pins:Z8) (s:Shared) (σ:St) (H:Hp) (o i v:V) (ov iv u:Value) (Q:Hp->Prop),qI H s->RelV o ov->RelV i iv->RelV v u->t o i v H Q ->
  qd X X.A (setItem ov iv u) (fun _ s'=>∃H',qI H' s'/\Q H') X.xe s
abbrev TIp:=V->V->Hp->VK->Prop
def PIp(X:Cx)(op:Operator)(t:TIp):Prop :=
 ∀(pins:Z8) (s:Shared) (σ:St) (H:Hp) (x y:V) (v u:Value) (Q:VK),qI H s->RelV x v->RelV y u->t x y H Q ->
  qd X X.A (inplaceOp op v u) (EP X pins σ Q) X.xe s
def Qna(i:Nat):TG:=fun v σ H Q=>Q (σ.set i (some v)) H
theorem Xa(c:X.N.Nodup)(e:X.N[i]?=some x)(f:Loc X.env.scope x)(b:autoParam (X.fn x=true\/qh X x=some .local) J3._auto_1):PG X (.Name x pos) (Qna i):=by
 intro a s g H v u Q I r h
 exact wpAny_assign_Name (Qef I c e f r (fun j d=>⟨_,H,d,h⟩) b)
theorem Z3(i:Nat)(b:X.N.Nodup)(c:X.N[i]?=some x:=by exact rfl)(d:autoParam (Loc X.env.scope x) J3._auto_1)(a:autoParam (X.fn x=true\/qh X x=some .local) J3._auto_1):PG X (.Name x pos) (Qna i):=Xa b c d a
def gNil:TGs:=fun vs σ H Q=>vs=[]/\Q σ H
def Qwi(t:TG)(u:TGs):TGs:=fun vs σ H Q=>∃v r,vs=v::r/\t v σ H fun σ' H'=>u r σ' H' Q
theorem Qnb:PGs X [] gNil:=by
 intro a s b H d c Q I r h
 obtain⟨e,h⟩:=h
 subst e
 cases r
 exact assignInOrder_nil ⟨b,H,I,h⟩
theorem Qbb{t:TG}{u:TGs}(k:PG X e t)(f:PGs X es u)
  (m:qb ((assignEach (e::es) X.env).map (·.2)=assign e X.env::(assignEach es X.env).map (·.2))):PGs X (e::es) (Qwi t u):=by
 intro a s j H q p Q I r h
 obtain⟨v,o,n,h⟩:=h
 subst n
 cases r with
 |cons r rr=>
  rw[m]
  refine assignInOrder_cons (thn (k a s j H _ _ _ I r h) fun _ d b=>?_)
  obtain⟨c,g,i,l⟩:=b
  exact f a d c g _ _ Q i rr l
def gTup(K:Fg)(n:Nat)(t:TGs):TG:=fun v σ H Q=>∃a xs,v=.ref a/\SqT K H a xs/\xs.length=n/\t xs σ H Q
theorem Qvg{k:Nat}{t:TGs}(w:X.calm=true)(h:PGs X es t)
  (q:qb ((assignEach es X.env).length=n)) (d:qb ((assignEach es X.env).findIdx? (·.1)=none)):PG X (.Tuple es k pos) (gTup X.K n t):=by
 intro c s i H v u Q I r f
 obtain⟨a,p,B,l,x,f⟩:=f
 subst B
 cases r
 obtain⟨j,g,z,C⟩:=I.tuple l
 refine assign_Tuple_tuple (I.ok.hd w) z (by simp[q,<-x,g.length]) d fun A y=>?_
 have m:Inv X c i H { s with heap:=A }:=I.kept (t':=s.toks) fun b o e=>y b o (zV (yK e)) e
 exact h c _ i H p _ Q m (by simpa using g) f
def gSub(to ti:TE)(t:TSet):TG:=fun v σ H Q=>to σ H fun o H1=>ti σ H1 fun i H2=>t o i v H2 fun H3=>Q σ H3
theorem Kg{o i:Expr}{to ti:TE}{t:TSet}(w:PE X o to)(g:PE X i ti)(l:PSet X t)
  (p:∀v,assign (.Subscript o i pos) X.env v=(do
   let ov ← holding [v] (eval o X.env)
   let iv ← holding [v,ov] (eval i X.env)
   standAt pos
   holding [v,ov,iv] (setItem ov iv v)
   release [v,ov,iv] []):=by intro _;rfl):PG X (.Subscript o i pos) (gSub to ti t):=by
 intro a s c H v u Q I r h
 rw[p]
 refine jX (Y30 (thn (w a s c H _ I h) fun ov z b=>?_))
 obtain⟨x,B,d,q,e⟩:=b
 refine jX (Y30 (thn (g a z c B _ d e) fun iv D b=>?_))
 obtain⟨y,A,C,k,j⟩:=b
 refine jX (wpAny_standAt (jX (Y30 (thn (l a D c A x y v ov iv u _ C q k r j) fun _ E b=>?_))))
 obtain⟨m,n,f⟩:=b
 exact wpAny_release ⟨c,m,n,f⟩
def tAsg(te:TE)(g:TG):TS:=fun D σ H=>te σ H fun x H1=>g x σ H1 D.nx
theorem Zo{te:TE}{g:TG}(he:PE X e te)(d:PG X tg g)(n:qb (swapsWithSole [tg] e pos.line X.env=pure false))(m:qb (swappedStores [tg] e X.env=pure none))
  (j:qb ((assignEach [tg] X.env).map (·.2)=[assign tg X.env])):PS X (.Assign [tg] e pos) (tAsg te g):=by
 intro a s c H D I h
 refine wpAny_Assign_stores (thn (he a s c H _ I h) fun v o b=>?_) n m
 obtain⟨x,f,i,k,l⟩:=b
 rw[j]
 exact thn (d a o c f x v _ i k l) fun _ p q=>q
theorem Qv{te:TE}(d:X.N.Nodup)(o:X.N[i]?=some x)(p:Loc X.env.scope x)(he:PE X e te)(m:qb (swapsWith e (some (.Name x pos')) pos.line X.env=pure false))(c:autoParam (X.fn x=true\/qh X x=some .local) J3._auto_1) :
  PS X (.Assign [.Name x pos'] e pos) (tAsg te (Qna i)):=by
 intro a s j H D I h
 refine wpAny_Assign_Name (thn (he a s j H _ I h) fun v r b=>?_) m
 obtain⟨y,f,g,k,l⟩:=b
 exact Qef g d o p k (fun q n=>⟨_,f,n,l⟩) c
theorem Z4(i:Nat){te:TE}(b:X.N.Nodup)(he:PE X e te)(d:X.N[i]?=some x:=by exact rfl)(f:autoParam (Loc X.env.scope x) J3._auto_1)(c:qb (swapsWith e (some (.Name x pos')) pos.line X.env=pure false))(a:autoParam (X.fn x=true\/qh X x=some .local) J3._auto_1) :
  PS X (.Assign [.Name x pos'] e pos) (tAsg te (Qna i)):=Qv b d f he c a
def tAug(i:Nat)(te:TE)(ti:TIp):TS:=fun D σ H=>∃x,σ[i]?=some (some x)/\te σ H fun y H1=>ti x y H1 fun z H2=>D.nx (σ.set i (some z)) H2
theorem Qjv{te:TE}{op:Operator}{ti:TIp}(M:X.N.Nodup)(o:X.N[i]?=some x)(j:Loc X.env.scope x)(he:PE X e te)(Q:PIp X op ti)(K:autoParam (X.fn x=true\/qh X x=some .local) J3._auto_1) :
  PS X (.AugAssign (.Name x pos') op e pos) (tAug i te ti):=by
 intro a s q H D I h
 obtain⟨v,L,h⟩:=h
 obtain⟨m,B,J⟩:=I.loc
 have n:Vis X.env.scope x:=by rcases j with k | k;exact .inl k;exact .inr (.inl k)
 obtain⟨u,r,l⟩:=J i x v o L n
 refine wpAny_AugAssign_Name ?_
 have p:qd X X.A (eval e X.env) (fun w f=>qd X X.A (inplaceOp op u w) (fun r g=>qd X X.A (storeName X.env x r) (fun _=>SP X a D .next) X.xe g) X.xe f) X.xe s:=by
  refine thn (he a s q H _ I h) fun w S d=>?_
  obtain⟨y,T,t,P,C⟩:=d
  refine thn (Q a S q T v y u w _ t r P C) fun z Z d=>?_
  obtain⟨W,R,U,F,E⟩:=d
  exact Qef U M o j F (fun Y O=>⟨_,R,O,E⟩) K
 rcases l with⟨hk,V⟩ | ⟨hk,c,G,b⟩
 .exact wpAny_loadName_local I.ok.kind hk B V p
 .rcases hk with hk | hk
  .exact wpAny_loadName_cell I.ok.kind hk G b p
  .rcases j with k | k
   .have:qh X x=some .free:=hk
    rw[k]at this;cases this
   .have:qh X x=some .free:=hk
    rw[k]at this;cases this
def tAugS(to ti te:TE)(tget:V->V->Hp->VK->Prop)(tip:TIp)(tset:TSet):TS:=fun D σ H=>to σ H fun o H1=>ti σ H1 fun i H2=>tget o i H2 fun x H3=>te σ H3 fun y H4=>tip x y H4 fun z H5=>tset o i z H5 fun H6=>D.nx σ H6
def PGet(X:Cx)(t:V->V->Hp->VK->Prop):Prop :=
 ∀(pins:Z8) (s:Shared) (σ:St) (H:Hp) (o i:V) (ov iv:Value) (Q:VK),qI H s->RelV o ov->RelV i iv->t o i H Q ->
  qd X X.A (getItem ov iv) (EP X pins σ Q) X.xe s
theorem Qnc{o i:Expr}{to ti te:TE}{tget:V->V->Hp->VK->Prop}{tip:TIp}{tset:TSet}{op:Operator}{tpos:Pos}(N:PE X o to)(r:PE X i ti)(Q:PGet X tget)(he:PE X e te)(P:PIp X op tip)(y:PSet X tset)
  (F:∀ov iv new,augStore i ov iv new=(do holding [new,ov,iv] (setItem ov iv new);release [new,ov,iv] [];pure .next):=by intros;rfl):PS X (.AugAssign (.Subscript o i tpos) op e pos) (tAugS to ti te tget tip tset):=by
 intro a s c H D I h
 refine wpAny_AugAssign_SubscriptAny (thn (N a s c H _ I h) fun ov M b=>?_) F
 obtain⟨j,R,l,g,n⟩:=b
 refine thn (r a M c R _ l n) fun iv U b=>?_
 obtain⟨d,L,T,f,t⟩:=b
 refine thn (Q a U c L j d ov iv _ T g f t) fun old q b=>?_
 obtain⟨k,z,C,K,p⟩:=b
 refine thn (he a q c z _ C p) fun v B b=>?_
 obtain⟨m,S,A,x,O⟩:=b
 refine thn (P a B c S k m old v _ A K x O) fun new u b=>?_
 obtain⟨J,w,G,W,E⟩:=b
 exact thn (y a u c w j d J ov iv new _ G g f W E) fun _ s6 ⟨H6,I6,q6⟩=>⟨c,H6,I6,q6⟩
def ipI(f:Int->Int->Int):TIp:=fun x y H Q=>∃i j,x=.int i/\y=.int j/\Q (.int (f i j)) H
theorem Qnd:PIp X .Add (ipI fun i j=>i+j):=by
 intro a s f H x y v u Q I d c h
 obtain⟨i,j,e,b,q⟩:=h
 subst e;subst b
 obtain⟨t,rfl⟩:=d
 obtain⟨g,rfl⟩:=c
 exact iadd_int ⟨.int _,H,I.tok _,⟨_,rfl⟩,q⟩
theorem Qvh:PIp X .Sub (ipI fun i j=>i-j):=by
 intro a s f H x y v u Q I d c h
 obtain⟨i,j,e,b,q⟩:=h
 subst e;subst b
 obtain⟨t,rfl⟩:=d
 obtain⟨g,rfl⟩:=c
 exact isub_int ⟨.int _,H,I.tok _,⟨_,rfl⟩,q⟩
set_option genInjectivity false in
set_option genInjectivity false in
structure It where
 go:Nat->Hp->Prop
 yld:Nat->Hp->V->Hp->Prop
 stop:Nat->Hp->Prop
def FpOk(X:Cx)(pins:Z8)(H:Hp)(b:Addr):Prop :=
 H b=none/\b≠X.env.locals/\b∉X.fs/\(b∈X.ex\/X.s₀.heap.objs.size<=b)/\(∀x c,X.env.cells.lookup x=some c->c≠b)/\∀p∈X.pn++pins,p.1≠b
theorem Inv.fpOk{σ:St}(I:qI H s)(a:(qa s)<=b)(d:H' b=none):FpOk X pins H' b:=by
 exists d,kKc (xJ I.lt a),I.nofs a,.inr (jZa I.sz a),fun x c e z=>?_,fun p f z=>?_
 .obtain⟨v,q⟩:=I.cell x c e
  exact Y21 (xJ q.lt (by rw[z];exact a)) (kQd _)
 .exact Y21 (xJ (yK (I.pin p f).1) (by rw[z];exact a)) (kQd _)
structure Turn(P:Program)(w:World)(K:Fg)(tg:Expr)(J:It)(fp:List Addr)(it:Addr)(tn:Nat->Heap->Prop):Prop where
 mem:it∈fp
 obj:∀i h,tn i h->∀b∈fp,∃o,h.get? b=some o/\∀v,o.data≠.cell v
 keep:∀i h h',tn i h->(∀b∈fp,∀o,h.get? b=some o->h'.get? b=some o)->tn i h'
 item:∀(X:Cx),X.prog=P->X.w=w->X.K=K->X.calm=true->∀(i:Nat) (pins:Z8) (s:Shared) (σ:St) (H:Hp) (E:VP),qI H s->(∀b∈fp,FpOk X pins H b)->tn i s.heap->J.go i H ->
  qe P w X.A (pyNext (.ref it)) (fun r s1=>∃u,r=some u /\
   qe P w X.A (letOwnedTupleGo tg (.ref it) u) (fun _ s2=>∃x H',qI H' s2/\RelV x u/\J.yld i H x H'/\tn (i+1) s2.heap/\∀b∈fp,H' b=none) E s1) E s
 done:∀(X:Cx),X.prog=P->X.w=w->X.K=K->X.calm=true->∀(i:Nat) (pins:Z8) (s:Shared) (σ:St) (H:Hp) (E:VP),qI H s->(∀b∈fp,FpOk X pins H b)->tn i s.heap->J.stop i H ->
  qe P w X.A (pyNext (.ref it)) (fun r s1=>r=none/\qI H s1) E s
 self:∀(A:Around) (i:Nat) (s:Shared) (Q:VP) (E:VP),tn i s.heap->Q (.ref it) s->qe P w A (pyIter (.ref it)) Q E s
abbrev TI:=St->Hp->(It->Hp->Prop)->Prop
def PIE(X:Cx)(pins:Z8)(σ:St)(tg:Expr)(R:It->Hp->Prop)(itv:Value)(s2:Shared):Prop :=
 ∃(it:Addr) (fp:List Addr) (tn:Nat->Heap->Prop) (J:It) (H':Hp),itv=.ref it/\qI H' s2/\Turn X.prog X.w X.K tg J fp it tn/\tn 0 s2.heap/\(∀b∈fp,FpOk X pins H' b)/\R J H'
def PI(X:Cx)(tg iter:Expr)(wi:TI):Prop :=
 ∀(pins:Z8) (s:Shared) (σ:St) (H:Hp) (R:It->Hp->Prop),qI H s->wi σ H R ->
  qd X X.A (eval iter X.env) (fun v s1=>qd X X.A (pyIter v) (PIE X pins σ tg R) X.xe s1) X.xe s
theorem Qsd{M:Model}       {o:Obj} {n:String} {vs:Array Value} {Q:Unit->Shared->Prop} (c:s.heap.get? it=some o) (d:o.cls=.type n) (hd:o.data=.fields vs)
    (b:["enumerate","zip","dict_itemiterator","dict_reverseitemiterator","odict_iterator","itertools.zip_longest","itertools.pairwise"].contains n=false) (a:Q () s):wpAny M A (letOwnedTupleGo tg (.ref it) u) Q E s:=by
  unfold letOwnedTupleGo
  cases tg<;>first
    |exact jK a
    | (cases u <;> first
        |exact jK a
        | (refine jX (wpAny_load c ?_)
           rw[d,hd]
           show wpAny M A (if (["enumerate","zip","dict_itemiterator","dict_reverseitemiterator","odict_iterator","itertools.zip_longest","itertools.pairwise"].contains n&&vs[0]? == some (rawInt _))=true then _ else _) Q E s
           rw[Y20 (by intro h;rw[b,Bool.false_and]at h;cases h)]
           exact jK a))
def Itl(K:Fg)(a:Addr):It :=
 ⟨fun i H=>∃xs x,SqL K H a xs/\xs[i]?=some x,fun i H x H'=>H'=H/\∀xs,SqL K H a xs->xs[i]?=some x,fun i H=>∃xs,SqL K H a xs/\xs.length<=i⟩
def Itt(K:Fg)(a:Addr):It :=
 ⟨fun i H=>∃xs x,SqT K H a xs/\xs[i]?=some x,fun i H x H'=>H'=H/\∀xs,SqT K H a xs->xs[i]?=some x,fun i H=>∃xs,SqT K H a xs/\xs.length<=i⟩
def Itr(lo:Int)(n:Nat):It:=⟨fun i _=>i<n,fun i H x H'=>H'=H/\x=.int (lo+i),fun i _=>n<=i⟩
theorem Qne(a j:Addr):Turn P w K tg (Itl K a) [j] j (fun i h=>h.IsListIter j a i) where
 mem:=by simp
 obj:=fun i h st b g=>by
  have e:b=j:=by simpa using g
  subst e
  obtain⟨o,e,c,d⟩:=st
  exists o,e,fun v z=>by rw[d]at z;cases z
 keep:=fun i h n st k=>st.at fun o e=>k j (by simp) o e
 item:=by
  intro X B F J O i f s Q H E I q st L
  subst B F J
  obtain⟨Y,x,m,C⟩:=L
  obtain⟨M,D,p,hz⟩:=I.list m
  obtain⟨u,T,V⟩:=D.get C
  obtain⟨N,r,U,G,A,y⟩:=q j (by simp)
  refine wpAny_pyNext_list_item st p.isList (x:=u) (by simpa using T) fun n l R=>?_
  have S:Inv X f Q H { s with heap:=n }:=I.turned (t':=s.toks) (fun b o g e=>(R.2 b g).trans e) N r G A y
  obtain⟨o,e,c,d⟩:=id l
  exists u,rfl,Qsd (s:={ s with heap:=n }) e c d Dc ⟨x,H,S,V,⟨rfl,fun ys Z=>by rw[I.list_inj Z m];exact C⟩,l,fun b g=>(q b g).1⟩
 done:=by
  intro X B F J O i f s Q H E I q st L
  subst B F J
  obtain⟨Y,m,C⟩:=L
  obtain⟨M,D,p,hz⟩:=I.list m
  obtain⟨N,r,U,G,A,y⟩:=q j (by simp)
  have hl:=D.length
  exact wpAny_pyNext_list_end (I.ok.hd O) st p.isList (by simp;lia) fun n W=>⟨rfl,I.turned (t':=s.toks) (fun b o g e=>W b o g e) N r G A y⟩
 self:=fun _ _ _ _ _ st h=>wpAny_pyIter_listiter st h
theorem Qlr(a j:Addr):Turn P w K tg (Itt K a) [j] j (fun i h=>h.IsTupleIter j a i) where
 mem:=by simp
 obj:=fun i h st b g=>by
  have e:b=j:=by simpa using g
  subst e
  obtain⟨o,e,c,d⟩:=st
  exists o,e,fun v z=>by rw[d]at z;cases z
 keep:=fun i h q st k=>st.at fun o e=>k j (by simp) o e
 item:=by
  intro X C G L O i f s Q H E I r st M
  subst C G L
  obtain⟨Y,x,n,D⟩:=M
  obtain⟨l,F,p,hz⟩:=I.tuple n
  obtain⟨u,T,V⟩:=F.get D
  obtain⟨N,y,U,J,B,A⟩:=r j (by simp)
  refine wpAny_pyNext_tuple_item st (show s.heap.IsTuple a l.toArray from p) (x:=u) (by simpa using T) fun q m R=>?_
  have S:Inv X f Q H { s with heap:=q }:=I.turned (t':=s.toks) (fun b o g e=>(R.2 b g).trans e) N y J B A
  obtain⟨o,e,c,d⟩:=id m
  exists u,rfl,Qsd (s:={ s with heap:=q }) e c d Dc ⟨x,H,S,V,⟨rfl,fun ys Z=>by rw[I.tuple_inj Z n];exact D⟩,m,fun b g=>(r b g).1⟩
 done:=by
  intro X C G L O i f s Q H E I r st M
  subst C G L
  obtain⟨Y,n,D⟩:=M
  obtain⟨l,F,p,hz⟩:=I.tuple n
  obtain⟨N,y,U,J,B,A⟩:=r j (by simp)
  have hl:=F.length
  exact wpAny_pyNext_tuple_end (I.ok.hd O) st (show s.heap.IsTuple a l.toArray from p) (by simp;lia) fun q W=>⟨rfl,I.turned (t':=s.toks) (fun b o g e=>W b o g e) N y J B A⟩
 self:=fun _ _ _ _ _ st h=>wpAny_pyIter_tupleiter st h
theorem Qls(a:Addr)(lo:Int)(n:Nat):Turn P w K tg (Itr lo n) [a] a (fun i h=>IsRangeIter h a (lo+(i:Nat)*1) ((n:Int)-(i:Nat)) 1) where
 mem:=by simp
 obj:=fun i h st b d=>by
  have e:b=a:=by simpa using d
  subst e
  exact⟨_,st,fun v z=>by
   have G:Data.fields _=Data.cell v:=z
   cases G⟩
 keep:=fun i h g st k=>k a (by simp) _ st
 item:=by
  intro X r u y q i c s C H E I j st A
  subst r u y
  obtain⟨B,l,J,x,p,m⟩:=j a (by simp)
  have W:=Walks.range (prog:=X.prog) (w:=X.w) (I.ok.hd q) a lo 1 n
  refine W.item i s _ _ A st fun v g D hv f L=>?_
  obtain⟨t,rfl⟩:=hv
  have F:Inv X c C H { s with heap:=g,toks:=D }:=I.turned (fun b o d e=>L b o (by simpa using d) e) B l x p m
  exists 4,Qsd (s:={ s with heap:=g,toks:=D }) (n:="range_iterator") f rfl rfl Dc ⟨.int (lo+i),H,F,⟨t,?_⟩,⟨rfl,rfl⟩,f,fun b d=>(j b d).1⟩
  rw[Int.mul_one]
 done:=by
  intro X r u y q i c s C H E I j st A
  subst r u y
  obtain⟨B,l,J,x,p,m⟩:=j a (by simp)
  exact wpAny_pyNext_range_end (I.ok.hd q) st (by have:n<=i:=A;lia) fun g M=>⟨rfl,I.turned (t':=s.toks) (fun b o d e=>M b o d e) B l x p m⟩
 self:=fun _ _ _ _ _ st h=>wpAny_pyIter_rangeiter st h
def iList(K:Fg)(tl:TE):TI:=fun σ H R=>tl σ H fun x H1=>∃a,x=.ref a/\(∃xs,SqL K H1 a xs)/\R (Itl K a) H1
def iTup(K:Fg)(tl:TE):TI:=fun σ H R=>tl σ H fun x H1=>∃a,x=.ref a/\(∃xs,SqT K H1 a xs)/\R (Itt K a) H1
theorem Xl{l:Expr}{tl:TE}(r:PE X l tl):PI X tg l (iList X.K tl):=by
 intro c s m H R I h
 refine thn (r c s m H _ I h) fun v f g=>?_
 obtain⟨x,j,d,u,w⟩:=g
 obtain⟨a,e,⟨z,k⟩,q⟩:=w
 subst e
 cases u
 obtain⟨i,y,p,A⟩:=d.list k
 refine wpAny_pyIter_list p.isList ?_
 exists (qa f),[(qa f)],_,_,j,rfl,d.kept (t':=f.toks) fun b o e=>jV _ e,Qne a _,⟨_,yJ _ rfl,rfl,rfl⟩,fun b n=>?_,q
 have e:b=(qa f):=by simpa using n
 subst e
 exact d.fpOk (jZ _) (d.hok.fresh (jZ _))
theorem Qbr{l:Expr}{tl:TE}(r:PE X l tl):PI X tg l (iTup X.K tl):=by
 intro c s m H R I h
 refine thn (r c s m H _ I h) fun v d i=>?_
 obtain⟨x,j,f,u,w⟩:=i
 obtain⟨a,e,⟨z,k⟩,q⟩:=w
 subst e
 cases u
 obtain⟨g,y,p,A⟩:=f.tuple k
 refine wpAny_pyIter_tuple (show d.heap.IsTuple a g.toArray from p) ?_
 exists (qa d),[(qa d)],_,_,j,rfl,f.kept (t':=d.toks) fun b o e=>jV _ e,Qlr a _,⟨_,yJ _ rfl,rfl,rfl⟩,fun b n=>?_,q
 have e:b=(qa d):=by simpa using n
 subst e
 exact f.fpOk (jZ _) (f.hok.fresh (jZ _))
theorem Qse{σ:St}{R:It->Hp->Prop}{hi:Int}{t u v:Tok}{tk:Nat}(I:qI H s)(i:-(2 ^ 62)<=lo)(d:lo<2 ^ 62)(c:-(2 ^ 62)<=hi)(h:hi<2 ^ 62)
  (q:R (Itr lo (hi-lo).toNat) H):qd X X.A (pyIter (.ref (qa s))) (PIE X pins σ tg R) E { s with heap:=s.heap.push { cls:=.type "range",data:=.fields #[.int lo t,.int hi u,.int 1 v] },toks:=tk }:=by
 refine wpAny_pyIter_range (IsRange.new ..) (small_one i d c h) ?_
 have a:qI H { s with heap:=s.heap.push { cls:=.type "range",data:=.fields #[.int lo t,.int hi u,.int 1 v] },toks:=tk }:=I.kept fun b o e=>jV _ e
 refine⟨(s.heap.push { cls:=.type "range",data:=.fields #[.int lo t,.int hi u,.int 1 v] }).objs.size,[(s.heap.push { cls:=.type "range",data:=.fields #[.int lo t,.int hi u,.int 1 v] }).objs.size],_,_,H,rfl,
  a.kept (t':=tk) fun b o e=>jV _ e,Qls _ lo (hi-lo).toNat,?_,fun b g=>?_,q⟩
 .have j:lo+((0:Nat):Int)*1=lo:=by simp
  have f:(((hi-lo).toNat:Nat):Int)-((0:Nat):Int)=Builtin.Range.rangeSize lo hi 1:=by rw[rangeSize_one];split<;>lia
  show IsRangeIter _ _ (lo+((0:Nat):Int)*1) ((((hi-lo).toNat:Nat):Int)-((0:Nat):Int)) 1
  rw[j,f]
  exact yJ _ rfl
 .have e:b=(s.heap.push { cls:=.type "range",data:=.fields #[.int lo t,.int hi u,.int 1 v] }).objs.size:=by simpa using g
  subst e
  exact a.fpOk (jZ _) (a.hok.fresh (jZ _))
def iRng1(ta:TA):TI:=fun σ H R=>ta σ H fun vs H1=>∃j:Int,vs=[.int j]/\-(2 ^ 62)<=j/\j<2 ^ 62/\R (Itr 0 j.toNat) H1
theorem Yi{a:Expr}{ta:TA}{p:Pos}(f:Gl X "range")(o:X.mg "range"=none)(k:PA X [a] ta)(n:qb (starEach [a] X.env=[(false,eval a X.env)])):PI X tg (.Call (.Name "range" p) [a] [] pos) (iRng1 ta):=by
 intro b s l H R I h
 refine Call_ (Vm I f o boot_range (PyProof.Rows.callWith_type1 (thn (k pos b s l H _ I h) fun v w c=>?_) n rfl))
 obtain⟨x,u,i,m,d⟩:=c
 obtain⟨j,e,d,g,q⟩:=d
 subst e
 cases m with
 |cons r rr=>
  cases rr
  obtain⟨t,rfl⟩:=r
  exact call_range_1 (Qse i Om Om d g (by simpa using q))
def tFor(wi:TI)(g:TG)(tb:TS):TS:=fun D σ H=>wi σ H fun J H1=>∃W:Nat->Nat->St->Hp->Prop,(∃m,W 0 m σ H1)/\∀i m σ H,W i m σ H ->
 (J.stop i H/\D.nx σ H)\/(J.go i H/\∃N:St->Hp->Prop,(∀σ' H',N σ' H'->∃m',m'<m/\W (i+1) m' σ' H')/\∀x H',J.yld i H x H'->g x σ H' fun σ2 H2=>tb { D with nx:=N,ct:=N,bk:=D.nx } σ2 H2)
def Qge(fp:List Addr)(h:Heap):Z8:=fp.filterMap fun b=>(h.get? b).map fun o=>(b,o)
theorem Kz{o:Obj}(a:b∈fp)(e:h.get? b=some o):(b,o)∈Qge fp h:=kKf.mpr ⟨b,a,by rw[e];rfl⟩
theorem Qnf{p:Addr×Obj}(d:p∈Qge fp h):p.1∈fp/\h.get? p.1=some p.2:=by
 obtain⟨b,a,e⟩:=kKf.mp d
 cases q:h.get? b with
 |none=>rw[q]at e;cases e
 |some o=>
  rw[q]at e
  have c:(b,o)=p:=Y5 e
  subst c
  exists a,q
theorem Inv.pinned{σ:St}(I:qI H s)(g:∀b∈fp,FpOk X pins H b)(i:∀b∈fp,∃o,s.heap.get? b=some o/\∀v,o.data≠.cell v):Inv X (pins++Qge fp s.heap) σ H s :=
 I.pins_of fun p j=>(xW.mp j).elim (fun z=>I.pin p (wY _ z)) fun z=>by
  obtain⟨c,e⟩:=Qnf z
  obtain⟨k,h,f,_⟩:=g p.1 c
  obtain⟨o,a,d⟩:=i p.1 c
  rw[e]at a;cases a
  exists e,k,h,f,d
theorem Inv.unpinned{pl:Z8}{σ:St}(I:Inv X (pins++pl) σ H s):qI H s:=I.pins_of fun p a=>I.pin p (wY _ (kQa _ a))
theorem Xy{body:List Stmt}{wi:TI}{g:TG}{tb:TS}(F:PassesOwn (model X.prog X.w) X.A X.env X.xe)(hc:X.calm=true)(hi:PI X tg iter wi)(hg:PG X tg g)(l:PSs X body tb)
  (hs:autoParam (∀x,foldedSetIterable iter X.env x=pure x) J4._auto_1):PS X (.For tg iter body [] pos) (tFor wi g tb):=by
 intro a s σ H D I h
 refine wpAny_For (thn (hi a s σ H _ I h) fun v s1 h1=>thn h1 fun aa s2 h2=>?_) hs
 obtain⟨it,C,tn,J,H2,e,I2,T,S,Z,W,⟨m0,w0⟩,L⟩:=h2
 subst e
 -- what stays true of the iterator's objects through the loop
 have k:∀{H':Hp},(∀b∈C,H' b=none)->∀b∈C,FpOk X a H' b:=fun hn b l=>⟨hn b l,(Z b l).2⟩
 refine codeAny_forLoop_any (fun n s'=>∃i σ' H',Inv X a σ' H' s'/\tn i s'.heap/\(∀b∈C,H' b=none)/\W i n σ' H') ?_ m0 ⟨0,σ,H2,I2,S,fun b l=>(Z b l).1,w0⟩
 rintro n Y ⟨i,p,O,I3,E,M,w3⟩
 rcases L i n p O w3 with⟨K,qn⟩ | ⟨go,N,hN,step⟩
 .refine wpAny_passesOwn F (thn (T.done X rfl rfl rfl hc i a Y p O X.xe I3 (k M) E K) fun r s4 j=>?_)
  obtain⟨P,I4⟩:=j
  subst P
  exact wpAny_execs_nil ⟨p,O,I4,qn⟩
 .refine wpAny_passesOwn F (thn (T.item X rfl rfl rfl hc i a Y p O X.xe I3 (k M) E go) fun r s4 j=>?_)
  obtain⟨u,P,h4⟩:=j
  subst P
  refine wpAny_passesOwn F (thn h4 fun _ s5 j=>?_)
  obtain⟨x,H5,I5,r5,y5,B,R⟩:=j
  have U:=I5.pinned (k R) (T.obj _ _ B)
  refine wpAny_passesOwn F (thn (hg _ s5 p H5 x u _ U r5 (step x H5 y5)) fun _ s6 j=>?_)
  obtain⟨V,H6,I6,q6⟩:=j
  refine wpAny_passesOwn F (thn (l _ s6 V H6 _ I6 q6) fun f Q z=>?_)
  have q:∀{c:St} {t:Hp},Inv X (a++Qge C s5.heap) c t Q->N c t->∃m,m<n/\∃i σ' H',Inv X a σ' H' Q/\tn i Q.heap/\(∀b∈C,H' b=none)/\W i m σ' H':=fun{c t} y G=>by
   obtain⟨m',hm,w7⟩:=hN c t G
   exists m',hm,i+1,c,t,y.unpinned,T.keep _ _ _ B fun b l o e=>(y.pin (b,o) (wY _ (wY _ (Kz l e)))).1,fun b l=>?_,w7
   obtain⟨o,e,d⟩:=T.obj _ _ B b l
   exact(y.pin (b,o) (wY _ (wY _ (Kz l e)))).2.1
  cases f with
  |next=>obtain⟨c,t,y,G⟩:=z;exact q y G
  |cont=>obtain⟨c,t,y,G⟩:=z;exact q y G
  |brk=>obtain⟨c,t,y,z⟩:=z;exists c,t,y.unpinned,z
  |ret v=>obtain⟨x7,c,t,y,r7,z⟩:=z;exists x7,c,t,y.unpinned,r7,z
theorem Yq{g:TG}{tb:TS}{D:Ends}{σ:St}(b:Nat->St->Hp->Prop)(h:b 0 σ H)(f:∀i σ H,i<=xs.length->b i σ H->SqL K H a xs)
  (j:∀i x σ H,xs[i]?=some x->b i σ H->g x σ H fun σ2 H2=>tb { D with nx:=b (i+1),ct:=b (i+1),bk:=D.nx } σ2 H2) (hd:∀σ H,b xs.length σ H->D.nx σ H) :
  ∃W:Nat->Nat->St->Hp->Prop,(∃m,W 0 m σ H)/\∀i m σ H,W i m σ H ->
   ((Itl K a).stop i H/\D.nx σ H)\/((Itl K a).go i H/\∃N:St->Hp->Prop,(∀σ' H',N σ' H'->∃m',m'<m/\W (i+1) m' σ' H')/\∀x H',(Itl K a).yld i H x H'->g x σ H' fun σ2 H2=>tb { D with nx:=N,ct:=N,bk:=D.nx } σ2 H2):=by
 exists fun i m σ H=>m=xs.length-i/\i<=xs.length/\b i σ H,⟨xs.length,by simp,jQf _,h⟩,?_
 rintro i m σ H ⟨rfl,k,p⟩
 have q:=f i σ H k p
 by_cases c:i<xs.length
 .refine .inr ⟨⟨xs,xs[i],q,by simp[c]⟩,b (i+1),fun σ' H' d=>⟨xs.length-(i+1),Om,rfl,c,d⟩,fun x H' y=>?_⟩
  obtain⟨e,y⟩:=y
  subst e
  exact j i x σ _ (y xs q) p
 .have e:i=xs.length:=Om
  subst e
  exact .inl ⟨⟨xs,q,jZ _⟩,hd σ H p⟩
theorem Qng{g:TG}{tb:TS}{D:Ends}{σ:St}(b:Nat->St->Hp->Prop)(h:b 0 σ H)(f:∀i σ H,i<=xs.length->b i σ H->SqT K H a xs)
  (j:∀i x σ H,xs[i]?=some x->b i σ H->g x σ H fun σ2 H2=>tb { D with nx:=b (i+1),ct:=b (i+1),bk:=D.nx } σ2 H2) (hd:∀σ H,b xs.length σ H->D.nx σ H) :
  ∃W:Nat->Nat->St->Hp->Prop,(∃m,W 0 m σ H)/\∀i m σ H,W i m σ H ->
   ((Itt K a).stop i H/\D.nx σ H)\/((Itt K a).go i H/\∃N:St->Hp->Prop,(∀σ' H',N σ' H'->∃m',m'<m/\W (i+1) m' σ' H')/\∀x H',(Itt K a).yld i H x H'->g x σ H' fun σ2 H2=>tb { D with nx:=N,ct:=N,bk:=D.nx } σ2 H2):=by
 exists fun i m σ H=>m=xs.length-i/\i<=xs.length/\b i σ H,⟨xs.length,by simp,jQf _,h⟩,?_
 rintro i m σ H ⟨rfl,k,p⟩
 have q:=f i σ H k p
 by_cases c:i<xs.length
 .refine .inr ⟨⟨xs,xs[i],q,by simp[c]⟩,b (i+1),fun σ' H' d=>⟨xs.length-(i+1),Om,rfl,c,d⟩,fun x H' y=>?_⟩
  obtain⟨e,y⟩:=y
  subst e
  exact j i x σ _ (y xs q) p
 .have e:i=xs.length:=Om
  subst e
  exact .inl ⟨⟨xs,q,jZ _⟩,hd σ H p⟩
theorem Jf{g:TG}{tb:TS}{D:Ends}{σ:St}(b:Nat->St->Hp->Prop)(d:b 0 σ H)
  (f:∀i σ H,i<n->b i σ H->g (.int (lo+i)) σ H fun σ2 H2=>tb { D with nx:=b (i+1),ct:=b (i+1),bk:=D.nx } σ2 H2) (hd:∀σ H,b n σ H->D.nx σ H) :
  ∃W:Nat->Nat->St->Hp->Prop,(∃m,W 0 m σ H)/\∀i m σ H,W i m σ H ->
   ((Itr lo n).stop i H/\D.nx σ H)\/((Itr lo n).go i H/\∃N:St->Hp->Prop,(∀σ' H',N σ' H'->∃m',m'<m/\W (i+1) m' σ' H')/\∀x H',(Itr lo n).yld i H x H'->g x σ H' fun σ2 H2=>tb { D with nx:=N,ct:=N,bk:=D.nx } σ2 H2):=by
 exists fun i m σ H=>m=n-i/\i<=n/\b i σ H,⟨n,by simp,jQf _,d⟩,?_
 rintro i m σ H ⟨rfl,h,p⟩
 by_cases a:i<n
 .refine .inr ⟨a,b (i+1),fun σ' H' c=>⟨n-(i+1),Om,rfl,a,c⟩,fun x H' y=>?_⟩
  obtain⟨e,y⟩:=y
  subst e y
  exact f i σ _ a p
 .have e:i=n:=Om
  subst e
  exact .inl ⟨jZ _,hd σ H p⟩
abbrev R2:=V->V->Hp->VK->Prop
def OpR(X:Cx)(f:Value->Value->Sem Value)(r:R2):Prop :=
 ∀(pins:Z8) (s:Shared) (σ:St) (H:Hp) (x y:V) (v u:Value) (Q:VK),qI H s->RelV x v->RelV y u->r x y H Q ->
  qd X X.A (f v u) (EP X pins σ Q) X.xe s
def UnR(X:Cx)(f:Value->Sem Value)(r:V->Hp->VK->Prop):Prop :=
 ∀(pins:Z8) (s:Shared) (σ:St) (H:Hp) (x:V) (v:Value) (Q:VK),qI H s->RelV x v->r x H Q ->
  qd X X.A (f v) (EP X pins σ Q) X.xe s
def Jb(X:Cx)(f:Value)(r:List V->Hp->VK->Prop):Prop :=
 ∀(pins:Z8) (s:Shared) (σ:St) (H:Hp) (xs:List V) (us:List Value) (Q:VK),qI H s->Vals xs us->r xs H Q ->
  qd X X.A (call f us) (EP X pins σ Q) X.xe s
def tOp(r:R2)(ta tb:TE):TE:=fun σ H Q=>ta σ H fun x H1=>tb σ H1 fun y H2=>r x y H2 Q
def tUn(r:V->Hp->VK->Prop)(ta:TE):TE:=fun σ H Q=>ta σ H fun x H1=>r x H1 Q
inductive rI(C:Int->Int->Prop)(g:Int->Int->V)(x y:V)(H:Hp)(Q:VK):Prop|mk(i j:Int)(a:x=.int i)(b:y=.int j)(c:C i j)(q:Q (g i j) H):rI C g x y H Q
inductive rI0(g:Int->Int->V)(x y:V)(H:Hp)(Q:VK):Prop|mk(i j:Int)(a:x=.int i)(b:y=.int j)(q:Q (g i j) H):rI0 g x y H Q
def rU(g:Int->V):V->Hp->VK->Prop:=fun x H Q=>∃i,x=.int i/\Q (g i) H
section
variable{a b:Expr}{ta tb:TE}
theorem binT(j:PE X a ta)(k:PE X b tb){σ:St}{R:V->V->Hp->Prop}(I:qI H s)
  (h:ta σ H fun x H1=>tb σ H1 fun y H2=>R x y H2) {Q:VP} {f:Value->Value->Sem Value}
  (d:∀v u s2 x y H2,qI H2 s2->RelV x v->RelV y u->R x y H2->qd X X.A (f v u) Q X.xe s2) :
  qd X X.A (eval a X.env) (fun v s₁=>qd X X.A (eval b X.env) (fun u s₂=>qd X X.A (f v u) Q X.xe s₂) X.xe s₁) X.xe s:=by
 refine thn (j pins s σ H _ I h) fun v o c=>?_
 obtain⟨x,H1,g,l,m⟩:=c
 refine thn (k pins o σ H1 _ g m) fun u s2 c=>?_
 obtain⟨y,H2,n,i,e⟩:=c
 exact d v u s2 x y H2 n l i e
theorem Qx{op:Operator}{r:R2}(l:OpR X (binaryOp op) r)(f:PE X a ta)(i:PE X b tb):PE X (.BinOp a op b pos) (tOp r ta tb):=by
 intro c s g H Q I h
 exact wpAny_BinOp (binT f i I h fun v u e x y m j d k q=>l c e g m x y v u Q j d k q)
theorem Jr{op:UnaryOp}{r:V->Hp->VK->Prop}(d:UnR X (unaryOp op) r)(e:PE X a ta):PE X (.UnaryOp op a pos) (tUn r ta):=by
 intro b s c H Q I h
 exact UnaryOp_ (thn (e b s c H _ I h) fun v s1 ⟨x,H1,I1,r1,q1⟩=>d b s1 c H1 x v Q I1 r1 q1)
theorem opI{f:Value->Value->Sem Value}{C:Int->Int->Prop}{g:Int->Int->Int}
  (a:∀(i j:Int) (t u:Tok) (s:Shared) (Q:VP) (E:VP),C i j->Q (.int (g i j) s.toks) { s with toks:=s.toks+1 }->qd X X.A (f (.int i t) (.int j u)) Q E s) :
  OpR X f (rI C fun i j=>.int (g i j)):=by
 intro b s l H x y v u Q I c k h
 obtain⟨i,j,rfl,rfl,d,q⟩:=h
 obtain⟨t,rfl⟩:=c
 obtain⟨e,rfl⟩:=k
 exact a i j t e s _ _ d ⟨.int (g i j),H,I.tok _,⟨_,rfl⟩,q⟩
theorem opI0{f:Value->Value->Sem Value}{g:Int->Int->Int}
  (a:∀(i j:Int) (t u:Tok) (s:Shared) (Q:VP) (E:VP),Q (.int (g i j) s.toks) { s with toks:=s.toks+1 }->qd X X.A (f (.int i t) (.int j u)) Q E s) :
  OpR X f (rI0 fun i j=>.int (g i j)):=by
 intro b s k H x y v u Q I c e h
 obtain⟨i,j,rfl,rfl,q⟩:=h
 obtain⟨t,rfl⟩:=c
 obtain⟨d,rfl⟩:=e
 exact a i j t d s _ _ ⟨.int (g i j),H,I.tok _,⟨_,rfl⟩,q⟩
theorem opB0{f:Value->Value->Sem Value}{g:Int->Int->Bool}
  (a:∀(i j:Int) (t u:Tok) (s:Shared) (Q:VP) (E:VP),Q (.bool (g i j)) s->qd X X.A (f (.int i t) (.int j u)) Q E s) :
  OpR X f (rI0 fun i j=>.bl (g i j)):=by
 intro b s k H x y v u Q I c e h
 obtain⟨i,j,rfl,rfl,q⟩:=h
 obtain⟨t,rfl⟩:=c
 obtain⟨d,rfl⟩:=e
 exact a i j t d s _ _ ⟨.bl (g i j),H,I,rfl,q⟩
def CDiv(i j:Int):Prop:=0<j/\j<1073741824
def CMul(i j:Int):Prop:=(-(2 ^ 64)<i/\i<2 ^ 64)\/(-(2 ^ 64)<j/\j<2 ^ 64)
theorem CMul.ok{i j:Int}(h:CMul i j):IntMulOk i j:=by
 rcases h with⟨a,b⟩ | ⟨a,b⟩
 .exact .of_left (intBits_le_64 a b)
 .exact .of_right (intBits_le_64 a b)
theorem Yw:OpR X (binaryOp .Add) (rI0 fun i j=>.int (i+j)):=opI0 fun _ _ _ _ _ _ _ q=>add_int q
theorem Yr:OpR X (binaryOp .Sub) (rI0 fun i j=>.int (i-j)):=opI0 fun _ _ _ _ _ _ _ q=>sub_int q
theorem Qap:OpR X (binaryOp .Mult) (rI CMul fun i j=>.int (i*j)):=opI fun _ _ _ _ _ _ _ a q=>mul_int q a.ok
theorem Jv:OpR X (binaryOp .FloorDiv) (rI CDiv fun i j=>.int (i / j)):=opI fun i j _ _ _ _ _ a q=>by
 have c:(0:Int)<j:=a.1
 have b:j<1073741824:=a.2
 exact floordiv_int Om (by rw[kYb i Om];exact q) (.inl (PyProof.noPylong_small Om))
theorem Yx:OpR X (binaryOp .Mod) (rI (fun _ j=>0<j) fun i j=>.int (i % j)):=opI fun i j _ _ _ _ _ a q=>by
 have b:(0:Int)<j:=a
 exact mod_int' Om (by rw[Int.fmod_eq_emod_of_nonneg i Om];exact q)
theorem unI{f:Value->Sem Value}{g:Int->Int}
  (a:∀(i:Int) (t:Tok) (s:Shared) (Q:VP) (E:VP),Q (.int (g i) s.toks) { s with toks:=s.toks+1 }->qd X X.A (f (.int i t)) Q E s) :
  UnR X f (rU fun i=>.int (g i)):=by
 intro b s d H x v Q I c h
 obtain⟨i,rfl,q⟩:=h
 obtain⟨t,rfl⟩:=c
 exact a i t s _ _ ⟨.int (g i),H,I.tok _,⟨_,rfl⟩,q⟩
theorem Zg:UnR X (unaryOp .USub) (rU fun i=>.int (-i)):=unI fun _ _ _ _ _ q=>neg_int q
end
def scal:V->V->Bool
 |.non,.non=>true | .non,.int _=>true | .int _,.non=>true | .non,.bl _=>true | .bl _,.non=>true | .non,.str _=>true | .str _,.non=>true
 |.int _,.int _=>true | .bl _,.bl _=>true | .str _,.str _=>true | .byt _,.byt _=>true
 |.int _,.str _=>true | .str _,.int _=>true | .bl _,.str _=>true | .str _,.bl _=>true
 |_,_=>false
def rEq:R2:=fun x y H Q=>scal x y=true/\Q (.bl (decide (x=y))) H
def rNe:R2:=fun x y H Q=>scal x y=true/\Q (.bl (!decide (x=y))) H
theorem Qnh{i j:Int}:decide (V.int i=V.int j)=(i == j):=by
 rw[jXc]
 simp
theorem Qvi{i j:Bool}:decide (V.bl i=V.bl j)=(i == j):=by
 rw[jXc]
 simp
theorem Qni{i j:Str}:decide (V.str i=V.str j)=(i == j):=by
 rw[jXc]
 simp
theorem Qnj{i j:Array UInt8}:decide (V.byt i=V.byt j)=(i.toList == j.toList):=by
 rw[jXc]
 cases i
 cases j
 simp
section
variable{a b c:Expr}{ta tb tc:TE}
theorem Xv{σ:St}{Q:VK}{k k':Bool}(I:qI H s)(q:Q (.bl k) H)(e:k=k'):EP X pins σ Q (.bool k') s:=by
 subst e
 exists .bl k,H,I,rfl,q
theorem Xz:OpR X (compareOp .Eq) rEq:=by
 intro e s f H x y v u Q I d a h
 obtain⟨c,q⟩:=h
 cases x with
 |non=>
  cases d
  cases y with
  |non=>cases a;exact PySem.EqNone.eq_none_none (Xv I q (by simp))
  |bl j=>cases a;exact PySem.EqNone.eq_none_bool (Xv I q (by simp))
  |int j=>obtain⟨b,rfl⟩:=a;exact PySem.EqNone.eq_none_int (Xv I q (by simp))
  |str j=>obtain⟨b,rfl⟩:=a;exact PySem.EqNone.eq_none_str (Xv I q (by simp))
  |_=>exact Y21 (show false=true from c) yX
 |bl i=>
  cases d
  cases y with
  |non=>cases a;exact PySem.EqNone.eq_bool_none (Xv I q (by simp))
  |bl j=>cases a;exact eq_bool (Xv I q Qvi)
  |str j=>obtain⟨b,rfl⟩:=a;exact PySem.EqMixed.eq_bool_str (Xv I q (by simp))
  |_=>exact Y21 (show false=true from c) yX
 |int i=>
  obtain⟨t,rfl⟩:=d
  cases y with
  |non=>cases a;exact PySem.EqNone.eq_int_none (Xv I q (by simp))
  |int j=>obtain⟨b,rfl⟩:=a;exact eq_int (Xv I q Qnh)
  |str j=>obtain⟨b,rfl⟩:=a;exact PySem.EqMixed.eq_int_str (Xv I q (by simp))
  |_=>exact Y21 (show false=true from c) yX
 |str i=>
  obtain⟨t,rfl⟩:=d
  cases y with
  |non=>cases a;exact PySem.EqNone.eq_str_none (Xv I q (by simp))
  |bl j=>cases a;exact PySem.EqMixed.eq_str_bool (Xv I q (by simp))
  |int j=>obtain⟨b,rfl⟩:=a;exact PySem.EqMixed.eq_str_int (Xv I q (by simp))
  |str j=>obtain⟨b,rfl⟩:=a;exact eq_str (Xv I q Qni)
  |_=>exact Y21 (show false=true from c) yX
 |byt i=>
  obtain⟨t,rfl⟩:=d
  cases y with
  |byt j=>obtain⟨b,rfl⟩:=a;exact PySem.W.eq_bytes (Xv I q Qnj)
  |_=>exact Y21 (show false=true from c) yX
 |_=>cases y<;>exact Y21 (show false=true from c) yX
theorem Qaw:OpR X (compareOp .NotEq) rNe:=by
 intro e s f H x y v u Q I d a h
 obtain⟨c,q⟩:=h
 cases x with
 |non=>
  cases d
  cases y with
  |non=>cases a;exact PySem.EqNone.ne_none_none (Xv I q (by simp))
  |bl j=>cases a;exact PySem.EqNone.ne_none_bool (Xv I q (by simp))
  |int j=>obtain⟨b,rfl⟩:=a;exact PySem.EqNone.ne_none_int (Xv I q (by simp))
  |str j=>obtain⟨b,rfl⟩:=a;exact PySem.EqNone.ne_none_str (Xv I q (by simp))
  |_=>exact Y21 (show false=true from c) yX
 |bl i=>
  cases d
  cases y with
  |non=>cases a;exact PySem.EqNone.ne_bool_none (Xv I q (by simp))
  |bl j=>cases a;exact ne_bool (Xv I q (congrArg not Qvi))
  |str j=>obtain⟨b,rfl⟩:=a;exact PySem.EqMixed.ne_bool_str (Xv I q (by simp))
  |_=>exact Y21 (show false=true from c) yX
 |int i=>
  obtain⟨t,rfl⟩:=d
  cases y with
  |non=>cases a;exact PySem.EqNone.ne_int_none (Xv I q (by simp))
  |int j=>obtain⟨b,rfl⟩:=a;exact ne_int (Xv I q (congrArg not Qnh))
  |str j=>obtain⟨b,rfl⟩:=a;exact PySem.EqMixed.ne_int_str (Xv I q (by simp))
  |_=>exact Y21 (show false=true from c) yX
 |str i=>
  obtain⟨t,rfl⟩:=d
  cases y with
  |non=>cases a;exact PySem.EqNone.ne_str_none (Xv I q (by simp))
  |bl j=>cases a;exact PySem.EqMixed.ne_str_bool (Xv I q (by simp))
  |int j=>obtain⟨b,rfl⟩:=a;exact PySem.EqMixed.ne_str_int (Xv I q (by simp))
  |str j=>obtain⟨b,rfl⟩:=a;exact ne_str (Xv I q (congrArg not Qni))
  |_=>exact Y21 (show false=true from c) yX
 |byt i=>
  obtain⟨t,rfl⟩:=d
  cases y with
  |byt j=>obtain⟨b,rfl⟩:=a;exact PySem.W.ne_bytes (Xv I q (congrArg not Qnj))
  |_=>exact Y21 (show false=true from c) yX
 |_=>cases y<;>exact Y21 (show false=true from c) yX
theorem Qeg:OpR X (compareOp .Lt) (rI0 fun i j=>.bl (decide (i<j))):=opB0 fun _ _ _ _ _ _ _ q=>lt_int q
theorem op_le:OpR X (compareOp .LtE) (rI0 fun i j=>.bl (decide (i<=j))):=opB0 fun _ _ _ _ _ _ _ q=>le_int q
theorem Qwj:OpR X (compareOp .Gt) (rI0 fun i j=>.bl (decide (j<i))):=opB0 fun _ _ _ _ _ _ _ q=>gt_int q
theorem Qnk:OpR X (compareOp .GtE) (rI0 fun i j=>.bl (decide (j<=i))):=opB0 fun _ _ _ _ _ _ _ q=>ge_int q
theorem Qgf:OpR X (compareOp .Is) (fun x y H Q=>y=.non/\Q (.bl (decide (x=.non))) H):=by
 intro b s d H x y v u Q I a c h
 obtain⟨rfl,q⟩:=h
 cases c
 refine is_none_gen (Xv I q ?_)
 cases x<;>first
  |(cases a;rfl)
  |(obtain⟨t,rfl⟩:=a;rfl)
theorem Qnl:OpR X (compareOp .IsNot) (fun x y H Q=>y=.non/\Q (.bl (!decide (x=.non))) H):=by
 intro b s d H x y v u Q I a c h
 obtain⟨rfl,q⟩:=h
 cases c
 refine isnot_none_gen (Xv I q ?_)
 cases x<;>first
  |(cases a;rfl)
  |(obtain⟨t,rfl⟩:=a;rfl)
theorem Qt(b:Expr){op:CmpOp}(h:qc (op≠.In))(c:qc (op≠.NotIn)):behindInMarks op b=false:=by
 have d:(op == CmpOp.In)=false:=by cases op<;>first | rfl | exact Y21 rfl h
 have a:(op == CmpOp.NotIn)=false:=by cases op<;>first | rfl | exact Y21 rfl c
 cases b<;>simp[behindInMarks,d,a]
theorem Ze{op:CmpOp}{r:R2}(m:OpR X (compareOp op) r)(f:PE X a ta)(i:PE X b tb)(l:behindInMarks op b=false):PE X (.Compare a [op] [b] pos) (tOp r ta tb):=by
 intro c s g H Q I h
 exact wpAny_Compare1 (binT f i I h fun v u e x y n j d k q=>m c e g n x y v u Q j d k q) l
inductive tTk(Q:Bool->Hp->Prop)(x:V)(H:Hp):Prop|mk(k:Bool)(h:x=.bl k)(q:Q k H):tTk Q x H
def tTest(t:TE):TT:=fun σ H Q=>t σ H (tTk Q)
theorem Qq{op:CmpOp}{r:R2}(l:OpR X (compareOp op) r)(g:PE X a ta)(i:PE X b tb)(j:behindInMarks op b=false):PT X (.Compare a [op] [b] pos) (tTest (tOp r ta tb)):=by
 intro d s f H Q I h
 refine wpAny_isTrue_Compare1 (thn (g d s f H _ I h) fun v s1 ⟨x,H1,I1,r1,q1⟩=>thn (i d s1 f H1 _ I1 q1) fun u s2 ⟨y,H2,I2,r2,q2⟩=>
  thn (l d s2 f H2 x y v u _ I2 r1 r2 q2) fun c s3 ⟨z,H3,I3,r3,k,e,q3⟩=>?_) j
 subst e
 cases r3
 exact Y31 ⟨H3,I3,q3⟩
def tChain(r r':R2)(ta tb tc:TE):TE:=fun σ H Q=>ta σ H fun x H1=>tb σ H1 fun y H2=>r x y H2 fun z H3=>∃k,z=.bl k /\
 (if k=true then tc σ H3 fun w' H4=>r' y w' H4 Q else Q (.bl false) H3)
theorem Qsf{op op':CmpOp}{r r':R2}(o:OpR X (compareOp op) r)(i:OpR X (compareOp op') r')(j:PE X a ta)(m:PE X b tb)(l:PE X c tc)
  (n:lastMarks [op,op'] [b,c]=false:=by with_unfolding_all rfl):PE X (.Compare a [op,op'] [b,c] pos) (tChain r r' ta tb tc):=by
 intro f s g H Q I h
 refine Compare_chain (thn (j f s g H _ I h) fun v s1 ⟨x,H1,I1,r1,q1⟩=>chain_link (thn (m f s1 g H1 _ I1 q1) fun u s2 ⟨y,H2,I2,r2,q2⟩=>
  thn (o f s2 g H2 x y v u _ I2 r1 r2 q2) fun d s3 ⟨z,H3,I3,r3,k,e,q3⟩=>?_)) n
 subst e
 cases r3
 refine Y31 ?_
 cases k with
 |false=>exact ite_ff ⟨.bl false,H3,I3,rfl,q3⟩
 |true=>exact ite_tt (chain_last (thn (l f s3 g H3 _ I3 q3) fun w' s4 ⟨z',H4,I4,r4,q4⟩=>i f s4 g H4 y z' u w' Q I4 r2 r4 q4))
theorem Qdk:(sizeLine:Nat)<2 ^ 63:=by rw[sizeLine_eq];decide
theorem vals1{x:V}(r:Vals [x] us):∃u,us=[u]/\RelV x u:=by
 cases r with
 |cons r1 r2=>cases r2;exists 4,r1
theorem vals2{x:V}(r:Vals [x,y] us):∃u w',us=[u,w']/\RelV x u/\RelV y w':=by
 cases r with
 |cons r1 r2=>
  cases r2 with
  |cons r3 r4=>cases r4;exists _,4,r1,r3
theorem Ko(c:X.calm=true):Jb X (.builtin "max") (fun xs H Q=>∃i j,xs=[.int i,.int j]/\Q (.int (if j > i then j else i)) H):=by
 intro b s d H xs g Q I r h
 obtain⟨i,j,rfl,q⟩:=h
 obtain⟨u,f,rfl,⟨t,rfl⟩,⟨e,rfl⟩⟩:=vals2 r
 refine max_two_ints (I.ok.hd c) fun l m k=>⟨_,H,I.kept k,?_,q⟩
 by_cases a:j > i
 .rw[Y22 a,Y22 a];exists 4
 .rw[Y20 a,Y20 a];exists 4
theorem Qgg(c:X.calm=true):Jb X (.builtin "min") (fun xs H Q=>∃i j,xs=[.int i,.int j]/\Q (.int (if j<i then j else i)) H):=by
 intro b s d H xs g Q I r h
 obtain⟨i,j,rfl,q⟩:=h
 obtain⟨u,f,rfl,⟨t,rfl⟩,⟨e,rfl⟩⟩:=vals2 r
 refine min_two_ints (I.ok.hd c) fun l m k=>⟨_,H,I.kept k,?_,q⟩
 by_cases a:j<i
 .rw[Y22 a,Y22 a];exists 4
 .rw[Y20 a,Y20 a];exists 4
theorem Qgh:Jb X (.type "int") (fun xs H Q=>(∃i,xs=[.int i]/\Q (.int i) H)\/∃k,xs=[.bl k]/\Q (.int (if k then 1 else 0)) H):=by
 intro a s d H xs c Q I r h
 rcases h with⟨i,rfl,q⟩ | ⟨k,rfl,q⟩
 .obtain⟨u,rfl,t,rfl⟩:=vals1 r
  exact call_int_int ⟨.int i,H,I,⟨_,rfl⟩,q⟩
 .obtain⟨u,rfl,b⟩:=vals1 r
  cases b
  exact call_int_bool ⟨.int (if k then 1 else 0),H,I.tok _,⟨_,rfl⟩,q⟩
theorem Zp:Jb X (.builtin "divmod") (fun xs H Q=>∃i j,xs=[.int i,.int j]/\CDiv i j/\∀p,H p=none->Q (.ref p) (upd H p (.tup [.int (i / j),.int (i % j)]))):=by
 intro a s f H xs l Q I r h
 obtain⟨i,j,rfl,⟨m,d⟩,q⟩:=h
 obtain⟨u,k,rfl,⟨t,rfl⟩,⟨g,rfl⟩⟩:=vals2 r
 refine divmod_int Om ?_ (.inl (PyProof.noPylong_small Om))
 rw[kYb i Om,Int.fmod_eq_emod_of_nonneg i Om]
 have c:H (qa s)=none:=I.hok.fresh (jZ _)
 exists .ref (qa s),_,?_,rfl,q _ c
 refine I.laid (fun b o e=>jV _ e) (jZ _) ⟨by simp only[zZ,jKf];rw[sizeLine_eq];decide,[.int (i / j) s.toks,.int (i % j) (s.toks+1)],.cons ⟨_,rfl⟩ (.cons ⟨_,rfl⟩ .nil),?_⟩
 exists _,yJ s.heap rfl,rfl,0,rfl
end
theorem RelO.some_of{o:Option Value}(r:RelO (some v) o):∃u,o=some u/\RelV v u:=by
 cases o with
 |none=>exact(show False from r).elim
 |some u=>exists u,rfl,r
structure Room(k:Nat)(A:Around):Prop where
 hd:A.handled=none
 dp:A.depth+3*k+5<recursionLimit
 un:A.units+16*k+200<cLine
theorem Room.mono{k:Nat}(r:Room k A)(h:j<=k):Room j A:=⟨r.hd,by have:=r.dp;lia,by have:=r.un;lia⟩
theorem Room.deeper{k:Nat}(r:Room (k+1) A)(env:Env):Room k (A.deeper env) :=
 ⟨r.hd,by have:=r.dp;show A.depth+1+3*k+5<_;lia,by have:=r.un;show A.units+3+16*k+200<_;lia⟩
theorem Room.depth{k:Nat}(r:Room k A):A.depth<recursionLimit:=by have:=r.dp;lia
def tNil:TA:=fun _ H Q=>Q [] H
def tCons(ta:TE)(tr:TA):TA:=fun σ H Q=>ta σ H fun x H1=>tr σ H1 fun xs H2=>Q (x::xs) H2
section
variable{te:TE}{t:TA}
theorem Qc:PA X [] tNil:=fun _ _ _ _ H Q I h=>Calls.spliced_nil ⟨[],H,I,.nil,h⟩
theorem Qa(i:PE X e te)(l:PA X es t)(m:qb (starEach (e::es) X.env=(false,eval e X.env)::starEach es X.env)):PA X (e::es) (tCons te t):=by
 intro b a s d H Q I h
 rw[m]
 show wpAny _ _ (spliced ((false,eval e X.env)::backTo b (starEach es X.env))) _ _ s
 refine Calls.spliced_cons (thn (i a s d H _ I h) fun u n c=>?_)
 obtain⟨x,f,g,j,k⟩:=c
 exact thn (l b a n d f _ g k) fun us s2 ⟨xs,H2,I2,r2,q2⟩=>⟨x::xs,H2,I2,.cons j r2,q2⟩
def tTup(t:TA):TE:=fun σ H Q=>t σ H fun xs H1=>xs.length<=sizeLine/\∀p,H1 p=none->Q (.ref p) (upd H1 p (.tup xs))
def tLst(t:TA):TE:=fun σ H Q=>t σ H fun xs H1=>xs.length<=sizeLine/\∀p,H1 p=none->Q (.ref p) (upd H1 p (.lst xs))
theorem Xh{x1}(h:PA X es t):PE X (.Tuple es x1 pos) (tTup t):=by
 intro a s d H Q I f
 refine wpAny_Tuple_spliced (thn (h pos a s d H _ I f) fun us s1 ⟨xs,H1,I1,r,z,q⟩=>⟨by rw[<-r.length];exact z,?_⟩)
 have c:H1 (qa s1)=none:=I1.hok.fresh (jZ _)
 exists .ref (qa s1),upd H1 (qa s1) (.tup xs),I1.laid (t':=s1.toks) (fun b u e=>jV _ e) (jZ _) ?_,rfl,q _ c
 exists z,us,r,⟨_,yJ _ rfl,rfl,_,rfl⟩
theorem Xp(h:PA X es t):PE X (.List es pos) (tLst t):=by
 intro a s d H Q I f
 refine wpAny_List_spliced (thn (h pos a s d H _ I f) fun us s1 ⟨xs,H1,I1,r,z,q⟩=>⟨by rw[<-r.length];exact z,?_⟩)
 have c:H1 (qa s1)=none:=I1.hok.fresh (jZ _)
 exists .ref (qa s1),upd H1 (qa s1) (.lst xs),I1.laid (t':=s1.toks) (fun b u e=>jV _ e) (jZ _) ?_,rfl,q _ c
 exists z,us,0,r,yJ _ rfl
end
abbrev Sp:=List V->Hp->VK->XK->Prop
abbrev CXT:=List Env->Hp->Shared->XK->Value->Shared->Prop
structure Env0(P:Program)(w:World)(K:Fg)(mg:Z9)(base:Heap)(A:Around)(outer:List Env)(s:Shared)(H:Hp):Prop where
 frames:A.frames=some outer
 mod:Mod K mg base
 bs:∀b o,base.get? b=some o->s.heap.get? b=some o/\H b=none
 bsz:base.objs.size<=(qa s)
 funs:s.heap.FunFrames base outer
 frf:∀b∈frs outer,H b=none
 hok:HOk P w H s.heap
 bare:AllBare s.gens
def CE(outer:List Env)(P:Program)(w:World)(H:Hp)(s:Shared)(Q:VK)(u:Value)(s':Shared):Prop :=
 ∃v H',s'.os=s.os/\AllBare s'.gens/\Un (frs outer) [] H H' s.heap s'.heap/\HOk P w H' s'.heap/\RelV v u/\Q v H'
def CR(CX:CXT)(outer:List Env)(P:Program)(w:World)(H:Hp)(s:Shared)(Q:VK)(E:XK)(r:Result)(s':Shared):Prop :=
 match r with
 |.ok (.ret u)=>CE outer P w H s Q u s'
 |.ok _=>False
 |.error e=>CX outer H s E e s'
structure FnOk(P:Program)(w:World)(K:Fg)(mg:Z9)(base:Heap)(CX:CXT)(k:Nat)(f:Addr)(fd:FuncData)(ps:List Str)(sp:Sp):Prop where
 len:∀vs H Q E,sp vs H Q E->vs.length=ps.length
 run:∀(A:Around) (outer:List Env) (s:Shared) (H:Hp) (args:Args) (us:List Value) (vs:List V) (Q:VK) (E:XK),Room k A->Env0 P w K mg base A outer s H->BindsTo s fd args (ps.zip us)->Vals vs us->sp vs H Q E ->
  codeAny (model P w) A (.call (.ref f) args) (CR CX outer P w H s Q E) s
theorem FnOk.mono{CX:CXT}{k:Nat}{ps:List Str}{sp:Sp}(F:FnOk P w K mg base CX j f fd ps sp)(h:j<=k) :
  FnOk P w K mg base CX k f fd ps sp:=⟨F.len,fun A a s H b d e Q E c=>F.run A a s H b d e Q E (c.mono h)⟩
section
variable{σ:St}{s':Shared}
theorem Inv.env0(I:qI H s):Env0 X.prog X.w X.K X.mg X.base X.A X.stack s H :=
 ⟨I.ok.frames,I.ok.mod,I.bs,jZa I.ok.bsz I.sz,I.stack,I.stkFree,I.hok,I.bare⟩
theorem Inv.after{Q:VK}(I:qI H s)(h:CE X.stack X.prog X.w H s Q u s'):EP X pins σ Q u s':=by
 obtain⟨v,j,f,a,un,e,r,q⟩:=h
 obtain⟨i,g,d,t,c⟩:=s'
 obtain rfl:c=s.os:=f
 exists v,j,I.call (h':=i) (g':=g) (d':=d) (t':=t) (ch:=[]) un e a (fun b z=>Y21 z (by simp)),r,q
end
def Qnm(sp:Sp)(dvs:List V)(E:XK)(t:TA):TE:=fun σ H Q=>t σ H fun vs H1=>sp (vs++dvs) H1 Q E
def Binds(K:Fg)(fd:FuncData)(ps:List Str)(ds:List Value):Prop :=
 ∀(s:Shared) (us:List Value),K.In s.heap->(us++ds).length=ps.length->BindsTo s fd ⟨us,[]⟩ (ps.zip (us++ds))
theorem Binds.all{ps:List Str}(h:∀us:List Value,us.length=ps.length->bindArgs fd ⟨us,[]⟩=pure (ps.zip us)):Binds K fd ps []:=fun s us _ a=>by
 rw[kKb]at a⊢
 exact .of_eq (h us a)
def Qjw(CX:CXT)(X:Cx)(E:XK):Prop:=∀(pins:Z8) (σ:St) (H:Hp) (s:Shared) (e:Value) (s':Shared),qI H s->CX X.stack H s E e s'->X.xe e s'
section
variable{CX:CXT}{k:Nat}{ps:List Str}{sp:Sp}{dvs:List V}{ds:List Value}{E:XK}{p:Pos}{t:TA}
theorem Qnn{σ:St}{Q:VK}(F:FnOk X.prog X.w X.K X.mg X.base CX k f fd ps sp)(i:Room k X.A)(d:Binds X.K fd ps ds)(hd:Vals dvs ds)(j:Qjw CX X E)
  (I:qI H s) (r:Vals vs us) (h:sp (vs++dvs) H Q E):qd X X.A (call (.ref f) us) (EP X pins σ Q) X.xe s:=by
 have b:Vals (vs++dvs) (us++ds):=r.append hd
 have c:(us++ds).length=ps.length:=by rw[<-b.length];exact F.len _ _ _ _ h
 refine wpAny_call (codeAny_mono (F.run X.A X.stack s H ⟨us,[]⟩ (us++ds) (vs++dvs) Q E i I.env0 (d s us I.kIn c) b h) fun r g a=>?_)
 cases r with
 |error e=>exact j pins σ H s e g I a
 |ok fl=>
  cases fl with
  |ret u=>exact I.after a
  |next=>exact False.elim a
  |brk=>exact False.elim a
  |cont=>exact False.elim a
theorem Qwk(F:FnOk X.prog X.w X.K X.mg X.base CX k f fd ps sp)(m:Room k X.A)(g:Gl X x)(n:X.mg x=some (.ref f))(d:PySem.W.keepIn X.K (.ref f)=true)(l:Binds X.K fd ps ds)(hd:Vals dvs ds)(o:Qjw CX X E)
  (i:PA X (e::es) t) (c:qc ((x == ("__debug__":Str))=false)) (he:qb (starEach (e::es) X.env=(false,eval e X.env)::starEach es X.env)) (b:qb ((backTo pos (starEach es X.env)).any (·.1)=false)) :
  PE X (.Call (.Name x p) (e::es) [] pos) (Qnm sp dvs E t):=by
 intro a s j H Q I h
 refine wpAny_Call_Name_kw (Qii I g n ?_ c)
 refine PySem.W.callWith_K (h₀:=X.base) I.ok.mod.kin d (thn (i pos a s j H _ I h) fun us s1 ⟨vs,H1,I1,r,q⟩=>⟨I1.kIn,?_⟩) he b
 exact Qnn F m l hd o I1 r q
theorem Qsg(F:FnOk X.prog X.w X.K X.mg X.base CX k f fd ps sp)(g:Room k X.A)(d:Gl X x)(i:X.mg x=some (.ref f))(c:PySem.W.keepIn X.K (.ref f)=true)(e:Binds X.K fd ps ds)(hd:Vals dvs ds)(j:Qjw CX X E)
  (a:qc ((x == ("__debug__":Str))=false)):PE X (.Call (.Name x p) [] [] pos) (Qnm sp dvs E tNil):=by
 intro b s l H Q I h
 refine wpAny_Call_Name_kw (Qii I d i ?_ a)
 exact PySem.W.callWith_K0 I.kIn c (Qnn (us:=[]) F g e hd j I .nil h)
end
structure FnScope(N P:List Str)(sc:Scope):Prop where
 kind:sc.kind=.function
 co:sc.isCoroutine=false
 gen:sc.isGenerator=false
 nd:N.Nodup
 pre:N.take P.length=P
 par:∀x∈P,sc.names.lookup x=some .local\/sc.names.lookup x=some .cell
 nofree:∀y∈sc.names,y.2≠.free
theorem Qgi{kindOf:Str->Option NameKind}{x:Str}:∀{binds:List (Str×Value)} {m:Z9},(∀v,(x,v)∉binds)->bindL kindOf binds m x=m x
 |[],_,_=>rfl
 |(n,v)::r,m,h=>by
  unfold bindL
  rw[Qgi fun w a=>h w (zY _ a)]
  split
  .have:x≠n:=by rintro rfl;exact h v kY
   simp[this]
  .rfl
theorem Qgj{kindOf:Str->Option NameKind}{x:Str}:∀{binds:List (Str×Value)} {m:Z9},(∀v,(x,v)∉binds)->bindC kindOf binds m x=m x
 |[],_,_=>rfl
 |(n,v)::r,m,h=>by
  unfold bindC
  rw[Qgj fun w a=>h w (zY _ a)]
  split
  .rfl
  .have:x≠n:=by rintro rfl;exact h v kY
   simp[this]
theorem Qgk{kindOf:Str->Option NameKind}{x:Str}{v:Value}:∀{P:List Str} {vs:List Value} {i:Nat} {m:Z9},P.Nodup->P[i]?=some x->vs[i]?=some v->kindOf x=some .local ->
  bindL kindOf (P.zip vs) m x=some v
 |[],_,_,_,_,h,_,_=>by simp at h
 |_::_,[],_,_,_,_,h,_=>by simp at h
 |p::P,w::vs,0,m,nd,h1,h2,hk=>by
  simp at h1 h2;subst h1;subst h2
  show bindL kindOf ((p,w)::P.zip vs) m p=_
  unfold bindL
  rw[Qgi fun v hv=>(jYb.mp nd).1 (List.of_mem_zip hv).1,Y22 hk]
  simp
 |p::P,w::vs,i+1,m,nd,h1,h2,hk=>by
  show bindL kindOf ((p,w)::P.zip vs) m x=_
  unfold bindL
  exact Qgk (i:=i) (jYb.mp nd).2 (by simpa using h1) (by simpa using h2) hk
theorem Qgl{kindOf:Str->Option NameKind}{x:Str}{v:Value}:∀{P:List Str} {vs:List Value} {i:Nat} {m:Z9},P.Nodup->P[i]?=some x->vs[i]?=some v->kindOf x≠some .local ->
  bindC kindOf (P.zip vs) m x=some v
 |[],_,_,_,_,h,_,_=>by simp at h
 |_::_,[],_,_,_,_,h,_=>by simp at h
 |p::P,w::vs,0,m,nd,h1,h2,hk=>by
  simp at h1 h2;subst h1;subst h2
  show bindC kindOf ((p,w)::P.zip vs) m p=_
  unfold bindC
  rw[Qgj fun v hv=>(jYb.mp nd).1 (List.of_mem_zip hv).1,Y20 hk]
  simp
 |p::P,w::vs,i+1,m,nd,h1,h2,hk=>by
  show bindC kindOf ((p,w)::P.zip vs) m x=_
  unfold bindC
  exact Qgl (i:=i) (jYb.mp nd).2 (by simpa using h1) (by simpa using h2) hk
def start(N:List Str)(vs:List V):St:=vs.map some++qg (N.length-vs.length) none
def cxOf(CX:CXT)(P:Program)(w:World)(K:Fg)(mg:Z9)(base:Heap)(N:List Str)(qual:Str)(scope:Scope)(f:Addr)(cd:Value)(A:Around)(outer:List Env)(s:Shared)(H:Hp)(E:XK):Cx where
 prog:=P
 w:=w
 K:=K
 mg:=mg
 base:=base
 A:=A.deeper (envOfC qual scope (qa s) f cd)
 N:=N
 s₀:=s
 H₀:=H
 env:=envOfC qual scope (qa s) f cd
 outer:=outer
 stack:=envOfC qual scope (qa s) f cd::outer
 ex:=[]
 calm:=true
 fn:=fun _=>true
 pn:=[]
 xe:=fun e s'=>qe P w (A.deeper (envOfC qual scope (qa s) f cd)) (leaving (envOfC qual scope (qa s) f cd) e) (fun _ s''=>CX outer H s E e s'') (fun e' s''=>CX outer H s E e' s'') s'
theorem Qjx{sc:Scope}(h:sc.names.lookup x=some .cell):∃c,(cellsFrom n sc.names []).lookup x=some c:=by
 have q:=PySem.W.cellsFrom_some sc.names n [] (.inl h)
 exact kQe.mp q
theorem Qno{CX:CXT}{ps:List Str}{cd:Value}{outer:List Env}{s1:Shared}{E:XK}
  (S:FnScope N ps scope) (hd:A.handled=none) (g:Env0 P w K mg base A outer s H) (J:vs.length=ps.length) (r:Vals vs us)
  (x:InCallC s (qa s) (bindL (envOfC qual scope (qa s) f cd).kindOf (ps.zip us) fun _=>none) (cellsFrom ((qa s)+1) scope.names []) (bindC (envOfC qual scope (qa s) f cd).kindOf (ps.zip us) fun _=>none) s1) :
  Inv (cxOf CX P w K mg base N qual scope f cd A outer s H E) [] (start N vs) H s1:=by
 have G:ps.length<=N.length:=by have:=congrArg List.length S.pre;rw[yY]at this;lia
 obtain⟨o,L,rfl,B⟩:=x.done
 have j:∀b:Addr,b∉(cxOf CX P w K mg base N qual scope f cd A outer s H E).ex:=fun b z=>Y21 (show b∈([]:List Addr)from z) (by simp)
 refine⟨⟨g.mod,S.kind,rfl,rfl,jZ _,fun y z c o d=>?_,fun y hy=>?_,fun y c _ h=>?_,fun _=>hd,Around.frames_deeper g.frames,.inr ⟨rfl,rfl⟩,fun b z=>Y21 z (j b),g.bs,g.bsz,fun b _ _=>j b,fun b z=>Y21 z (j b),g.funs,g.frf⟩,
  rfl,g.bare,Un.kept B,⟨_,x.toInCall.ns,fun i y v o d I=>?_⟩,fun y c h=>⟨_,x.cell y c h⟩,g.hok.fresh (jZ _),fun y c h=>?_,fun p m=>Y21 (show p∈([]:Z8)from m) (by simp),g.hok.kept B,?_⟩
 .exact name_of_addr x.apart (PySem.mem_of_lookup o) (PySem.mem_of_lookup d)
 .have hy:scope.names.lookup y=some .cell\/scope.names.lookup y=some .free:=hy
  rcases hy with hy | hy
  .exact Qjx hy
  .exact Y21 rfl (S.nofree _ (PySem.mem_of_lookup hy))
 .exact kYd (x.above y c (PySem.mem_of_lookup h))
 .have t:i<vs.length:=by
   unfold start at d
   by_cases t:i<vs.length
   .exact t
   .rw[jKc (by simpa using t)]at d
    rw[List.getElem?_replicate]at d
    split at d<;>cases d
  have F:vs[i]?=some v:=by
   unfold start at d
   rw[jKe (by simpa using t),jY]at d
   cases e:vs[i]? with
   |none=>rw[e]at d;cases d
   |some a=>rw[e]at d;cases d;rfl
  obtain⟨u,C,D⟩:=r.get F
  have m:ps[i]?=some y:=by
   rw[<-S.pre,kZe Om];exact o
  have l:ps.Nodup:=by rw[<-S.pre];exact S.nd.sublist (List.take_sublist _ _)
  exists u,D,?_
  rcases S.par y (kX m)with k | k
  .exact .inl ⟨k,Qgk l m C k⟩
  .obtain⟨c,e⟩:=Qjx (n:=(qa s)+1) k
   refine .inr ⟨.inl k,c,e,?_⟩
   have q:=x.cell y c e
   rw[Qgl l m C (by show scope.names.lookup y≠_;rw[k];decide)]at q
   exact q
 .exact g.hok.fresh (kYd (x.above y c (PySem.mem_of_lookup h)))
 .unfold start
  show _=N.length
  rw[yQ,jQ,wQ]
  lia
theorem fn_of{CX:CXT}{k:Nat}{name:Str}{params:Arguments}{body:List Stmt}{dV kV:Value}
   {ps:List Str} {sp:Sp} (T:K.lookup f=some ⟨oc,od,.func (PySem.W.fnOf name qual params body scope dV kV doc pm an cdv ct),osl⟩) (m:PySem.W.codeIn K cdv qual=true) (S:FnScope N ps scope)
  (len:∀vs H Q E,sp vs H Q E->vs.length=ps.length)
  (c:∀(A:Around) (outer:List Env) (s:Shared) (H:Hp) (vs:List V) (Q:VK) (E:XK),Room k (A.deeper (envOfC qual scope (qa s) f cdv))->sp vs H Q E ->
   ∃t,PSs (cxOf CX P w K mg base N qual scope f cdv A outer s H E) body t/\t { nx:=fun _ H'=>Q .non H',rt:=Q } (start N vs) H) :
  FnOk P w K mg base CX (k+1) f (PySem.W.fnOf name qual params body scope dV kV doc pm an cdv ct) ps sp:=by
 exists len,fun A outer s H D Y vs Q E j i F r h=>?_
 have U:=len _ _ _ _ h
 have C:K.In s.heap:=i.mod.kin.keeps fun b o e=>(i.bs b o e).1
 have l:s.heap.NoLimit:=i.mod.nolimit.keeps fun b o e=>(i.bs b o e).1
 have d:∀y∈ps.zip Y,scope.names.lookup y.1=some .local\/(scope.names.lookup y.1=some .cell/\((cellsFrom ((qa s)+1) scope.names []).lookup y.1).isSome=true):=fun⟨n,v⟩ X=>by
  rcases S.par n (List.of_mem_zip X).1 with q | q
  .exact .inl q
  .exact .inr ⟨q,PySem.W.cellsFrom_some _ _ _ (.inl q)⟩
 refine codeAny_call_function j.depth (C _ _ T) rfl S.co S.gen rfl (PySem.W.codeRec_of C m) (F _ _ _ _ ?_)
 refine wpAny_newFunctionEnv_cells S.kind d fun G O B x=>?_
 subst O
 exists l.keeps x.toInCall.keep,codeAny_func ?_
 obtain⟨t,L,R⟩:=c A outer s H vs Q E (j.deeper _) h
 have I:Inv (cxOf CX P w K mg base N qual scope f cdv A outer s H E) [] (start N vs) H B:=Qno S j.hd i U r x
 refine Y29 (L [] B (start N vs) H _ I R) (fun M z g=>?_) fun e z g=>g
 have fin:∀{a:St} {H':Hp} {v:V} {u:Value},Inv (cxOf CX P w K mg base N qual scope f cdv A outer s H E) [] a H' z->RelV v u->Q v H'->CE outer P w H s Q u z :=
  fun{a H' v u} J p q=>⟨v,H',J.os,J.bare,J.base,J.hok,p,q⟩
 cases M with
 |ret u=>
  obtain⟨v,a,H',J,p,q⟩:=g
  exact fin J p q
 |next=>
  obtain⟨a,H',J,q⟩:=g
  exact fin (v:=V.non) (u:=Value.none) J rfl q
 |brk=>
  obtain⟨_,_,_,q⟩:=g
  exact False.elim q
 |cont=>
  obtain⟨_,_,_,q⟩:=g
  exact False.elim q
section
variable{p:Pos}{t:TA}{id:String}{r:List V->Hp->VK->Prop}
def tCB(r:List V->Hp->VK->Prop)(t:TA):TE:=fun σ H Q=>t σ H fun vs H1=>r vs H1 Q
theorem Qi(j:Jb X (.builtin id) r)(f:Gl X x)(k:X.mg x=none)(hv:bootBuiltins x=some (.builtin id))(g:PA X (e::es) t)(i:qc (x≠"__name__"))(c:qc ((x == ("__debug__":Str))=false))
  (he:qb (starEach (e::es) X.env=(false,eval e X.env)::starEach es X.env)) (b:qb ((backTo pos (starEach es X.env)).any (·.1)=false)):PE X (.Call (.Name x p) (e::es) [] pos) (tCB r t):=by
 intro a s d H Q I h
 refine wpAny_Call_Name_kw (Vm I f k hv ?_ i c)
 exact PyProof.Rows.callWith_builtin1 (thn (g pos a s d H _ I h) fun us s1 ⟨vs,H1,I1,r1,q1⟩=>j a s1 d H1 vs us Q I1 r1 q1) he b
theorem Qz(j:Jb X (.type T) r)(f:Gl X x)(k:X.mg x=none)(hv:bootBuiltins x=some (.type T))(g:PA X (e::es) t)(i:qc (x≠"__name__"))(c:qc ((x == ("__debug__":Str))=false))
  (he:qb (starEach (e::es) X.env=(false,eval e X.env)::starEach es X.env)) (b:qb ((backTo pos (starEach es X.env)).any (·.1)=false)):PE X (.Call (.Name x p) (e::es) [] pos) (tCB r t):=by
 intro a s d H Q I h
 refine wpAny_Call_Name_kw (Vm I f k hv ?_ i c)
 exact PyProof.Rows.callWith_type1 (thn (g pos a s d H _ I h) fun us s1 ⟨vs,H1,I1,r1,q1⟩=>j a s1 d H1 vs us Q I1 r1 q1) he b
end
end L2
variable{σ τ0:L2.St}{te:L2.TE}{ta:L2.TA}{tb s1 s2 s3 s4 s5 s6:L2.TS}{sp:L2.Sp}{tt:L2.TT}{J:L2.It}
namespace HT
open PySem PyProof.Rows
section
variable{prog:Program}
theorem cat_tup{t:Addr}{vs ws:List Value}{Q:VP}(x:IsTup s.heap t vs.toArray)(v:IsTup s.heap b ws.toArray)(hv:vs≠[])
  (u:ws=[]->Q (.ref t) s) (r:ws≠[]->Q (.ref (qa s)) { s with heap:=s.heap.push { cls:=.type "tuple",data:=.seq (vs++ws).toArray } })
  (hsz:vs.length+ws.length<=sizeLine):qe prog w A (binaryOp .Add (.ref t) (.ref b)) Q E s:=by
 obtain⟨⟨cls,m,data,p⟩,i,l,n,k⟩:=id x
 obtain⟨⟨o,c,j,f⟩,a,d,q,g⟩:=id v
 simp only at l k d g
 subst l k d g
 have e:vs.toArray++ws.toArray=(vs++ws).toArray:=by simp
 by_cases h:ws=[]
 .exact concat_meets ⟨_,i,rfl⟩ ⟨_,a,rfl⟩ noFill_tuple_add seq_tuple_add PySem.F.slot_tuple_add PySem.F.entry_tuple_add (PySem.F.args_tuple_add_2 _ _)
   (tuple_addW1 t b vs.toArray ws.toArray n q m c p f (by simpa using hv) (by simp[h])) ⟨i,a,u h⟩
 .refine concat_meets ⟨_,i,rfl⟩ ⟨_,a,rfl⟩ noFill_tuple_add seq_tuple_add PySem.F.slot_tuple_add PySem.F.entry_tuple_add (PySem.F.args_tuple_add_2 _ _)
   (tuple_addW2 t b vs.toArray ws.toArray n q m c p f (by simpa using hv) (by simpa using h) (by rw[kQ,kQ];exact hsz)) ⟨i,a,?_⟩
  rw[e]
  exact r h
def sIx(n d:Nat):Option Int->Nat
 |none=>d
 |some v=>if v<0 then(v+(n:Int)).toNat else min v.toNat n
theorem sIx_none(n d:Nat):sIx n d none=d:=rfl
theorem sIx_le(n d:Nat)(hd:d<=n)(o:Option Int):sIx n d o<=n:=by
 cases o with
 |none=>exact hd
 |some v=>
  show(if v<0 then(v+(n:Int)).toNat else min v.toNat n)<=n
  by_cases hv:v<0
  .rw[Y22 hv];lia
  .rw[Y20 hv];exact Nat.min_le_right _ _
theorem min_cast(v:Int)(n:Nat)(h:¬v<0):min v (n:Int)=((min v.toNat n:Nat):Int):=by
 obtain⟨k,rfl⟩:=Int.eq_ofNat_of_zero_le (kYc.mp h)
 rw[yV]
 rcases Nat.le_total k n with h | h
 .rw[jYc h,Int.min_eq_left (Int.ofNat_le.mpr h)]
 .rw[Nat.min_eq_right h,Int.min_eq_right (Int.ofNat_le.mpr h)]
theorem clip_eq(v:Int)(n d:Nat):(if v<0 then max (v+(n:Int)) 0 else min v (n:Int))=((sIx n d (some v):Nat):Int):=by
 show(if v<0 then max (v+(n:Int)) 0 else min v (n:Int))=(((if v<0 then(v+(n:Int)).toNat else min v.toNat n):Nat):Int)
 by_cases hv:v<0
 .rw[Y22 hv,Y22 hv];exact(Int.ofNat_toNat _).symm
 .rw[Y20 hv,Y20 hv];exact min_cast v n hv
theorem Qlt(lo a:Option Int)(n:Nat):Builtin.Slice.sliceAdjust lo a 1 (n:Int)=(((sIx n 0 lo:Nat):Int),((sIx n n a:Nat):Int)):=by
 have b:¬((1:Int)<0):=Om
 unfold Builtin.Slice.sliceAdjust
 simp only[b,if_false]
 refine Prod.ext ?_ ?_
 .cases lo with
  |none=>rfl
  |some v=>exact clip_eq v n 0
 .cases a with
  |none=>rfl
  |some v=>exact clip_eq v n n
theorem Qlu(i j:Nat):Builtin.Slice.slicePlaces (i:Int) (j:Int) 1=j-i:=by
 unfold Builtin.Slice.slicePlaces
 have a:(1:Int) > 0:=Om
 simp only[a,if_true,Int.ediv_one]
 split<;>lia
theorem Qdl{v:Value}{o:Option Int}{Q:Option Int->Shared->Prop}(p:IsPart v o)(h:Q o s):qe prog w A (Builtin.Slice.slicePartIndex v) Q E s:=by
 cases p with
 |none=>exact slicePart_none h
 |int i t=>exact slicePart_int h
theorem Qax{sl:Addr}{vl vu:Value}{lo:Option Int}{Q:Int×Int×Nat->Shared->Prop}(e:s.heap.IsSliceOf sl vl vu .none)(c:IsPart vl lo)(d:IsPart vu hi)
  (h:Q (((sIx n 0 lo:Nat):Int),1,sIx n n hi-sIx n 0 lo) s):qe prog w A (Builtin.Slice.sliceApplied (.ref sl) (pure (n:Int))) Q E s:=by
 obtain⟨g,a,f,b⟩:=id e
 unfold Builtin.Slice.sliceApplied Builtin.Slice.sliceFields
 refine jX (jX (Y23 a b (x:=vl) rfl (jX (Y23 a b (x:=vu) rfl (jX (Y23 a b (x:=.none) rfl (jK ?_)))))))
 refine jX (slicePart_none ?_)
 show wpAny _ _ (if ((1:Int) == 0)=true then _ else _) _ _ s
 rw[Y20 Dc]
 refine jX (Qdl c (jX (Qdl d (jX (jK ?_)))))
 show wpAny _ _ (match Builtin.Slice.sliceAdjust lo hi 1 (n:Int)with | (lo,hi)=>pure (lo,(1:Int),Builtin.Slice.slicePlaces lo hi 1)) _ _ s
 rw[Qlt lo hi n]
 show wpAny _ _ (pure (((sIx n 0 lo:Nat):Int),(1:Int),Builtin.Slice.slicePlaces ((sIx n 0 lo:Nat):Int) ((sIx n n hi:Nat):Int) 1)) _ _ s
 rw[Qlu]
 exact jK h
theorem Qsh(xs:Array Value)(i k:Nat):((List.range k).filterMap fun(m:Nat)=>xs[((i:Int)+(m:Int)*1).toNat]?).toArray=((xs.toList.drop i).take k).toArray:=by
 have e:(fun(m:Nat)=>xs[((i:Int)+(m:Int)*1).toNat]?)=fun m=>xs[i+m]?:=by
  funext m
  have:((i:Int)+(m:Int)*1).toNat=i+m:=Om
  rw[this]
 rw[e]
 have:=pick_run xs i k
 rw[List.filterMap_map]at this
 have a:((fun x=>xs[x]?)∘fun x=>i+x)=fun m=>xs[i+m]?:=rfl
 rw[a]at this
 rw[this]
theorem getItem_tuple_cut{t sl:Addr}{items:Array Value}{vl vu:Value}{lo:Option Int}{Q:VP}(b:IsTup s.heap t items)(g:s.heap.IsSliceOf sl vl vu .none)(j:IsPart vl lo)(l:IsPart vu hi)
  (n:¬(sIx items.size 0 lo=0/\sIx items.size items.size hi=items.size))
  (h:Q (.ref (qa s)) { s with heap:=s.heap.push { cls:=.type "tuple",data:=.seq ((items.toList.drop (sIx items.size 0 lo)).take (sIx items.size items.size hi-sIx items.size 0 lo)).toArray } })
  (hsz:items.size<=sizeLine):qe prog w A (getItem (.ref t) (.ref sl)) Q E s:=by
 have a:sizeOk (.seq ((items.toList.drop (sIx items.size 0 lo)).take (sIx items.size items.size hi-sIx items.size 0 lo)).toArray):=by
  show((items.toList.drop (sIx items.size 0 lo)).take (sIx items.size items.size hi-sIx items.size 0 lo)).toArray.size<=sizeLine
  rw[kQ,yY,jJc,xX]
  lia
 have r:sIx items.size items.size hi<=items.size:=sIx_le _ _ (jZ _) hi
 obtain⟨i,c,f,k⟩:=id g
 have e:s.TypeIs (.ref sl) "slice":=⟨i,c,f⟩
 unfold getItem
 try with_reducible refine Y30 ?_
 first | refine jX (jK ?_) | skip
 refine jX (wpAny_sequenceKey b.typeIs Dc ?_)
 refine jX (wpAny_callSpecial?_slot (name:=Str.ofString "__getitem__") b.typeIs PyProof.Rows.slot_tuple_getitem
  (Y25 PyProof.Rows.slot_tuple_getitem b.typeIs entry_tuple_getitem ?_ (args_tuple_getitem _ _)))
 show wpAny _ _ (Builtin.Tuple.tupleItemsOf (.ref t) >>= _) _ _ s
 refine jX (tupleItemsOf_ b ?_)
 refine jX (wpAny_typeOf e ?_)
 rw[Y22 Dc]
 refine jX (Qax g j l ?_)
 have d:¬((((sIx items.size 0 lo:Nat):Int) == 0&&(1:Int) == 1&&(sIx items.size items.size hi-sIx items.size 0 lo) == items.size)=true):=by
  intro q
  rw[xV,xV]at q
  have p:((sIx items.size 0 lo:Nat):Int)=0:=eq_of_beq q.1.1
  have o:sIx items.size items.size hi-sIx items.size 0 lo=items.size:=eq_of_beq q.2
  exact n ⟨Om,Om⟩
 show wpAny _ _ (if (((sIx items.size 0 lo:Nat):Int) == 0&&(1:Int) == 1&&(sIx items.size items.size hi-sIx items.size 0 lo) == items.size)=true then _ else _) _ _ s
 rw[Y20 d,Qsh]
 first
  |exact jX (m:=Builtin.Tuple.tupleExact _) (Y26 (jK ⟨_,rfl,jK h⟩) a)
  |exact jX (m:=Builtin.Tuple.tupleExact _) (Y26 (jX (jK (jK ⟨_,rfl,jK h⟩))) a)
  |exact jX (jX (m:=Builtin.Tuple.tupleExact _) (Y26 (jK (jK ⟨_,rfl,jK h⟩)) a))
  |exact jX (jX (m:=Builtin.Tuple.tupleExact _) (Y26 (jK ⟨_,rfl,jK h⟩) a))
end
end HT
namespace L2
open PySem PySem.Spec PyProof.Rows
abbrev TO:=St->Hp->(Option Int->Hp->Prop)->Prop
def PO(X:Cx)(e:Option Expr)(t:TO):Prop :=
 ∀(pins:Z8) (s:Shared) (σ:St) (H:Hp) (Q:Option Int->Hp->Prop),qI H s->t σ H Q ->
  qd X X.A (evalPart e X.env) (fun u s'=>∃o H',qI H' s'/\IsPart u o/\Q o H') X.xe s
def Qwl:TO:=fun _ H Q=>Q none H
def tPart(t:TE):TO:=fun σ H Q=>t σ H fun x H1=>∃i,x=.int i/\Q (some i) H1
theorem intsAre_of:∀{us:List Value},Vals (ns.map V.int) us->IntsAre us ns:=by
 induction ns with
 |nil=>intro us r;rw[kYe]at r;cases r;exact .nil
 |cons n ns ih=>
  intro us r
  rw[xZ]at r
  cases r with
  |cons r1 r2=>
   obtain⟨t,e⟩:=r1
   subst e
   exact .cons n t (ih r2)
section
variable{lo hi:Option Expr}{tl th:TO}{p2:Pos}
theorem Kp:PO X none Qwl:=by
 intro a s b H Q I h
 rw[evalPart_none]
 exact jK ⟨none,H,I,.none,h⟩
theorem Yt(h:PE X e te):PO X (some e) (tPart te):=by
 intro a s f H Q I k
 rw[evalPart_some]
 refine thn (h a s f H _ I k) fun u l b=>?_
 obtain⟨x,c,d,g,j⟩:=b
 obtain⟨i,rfl,q⟩:=j
 obtain⟨t,rfl⟩:=g
 exists some i,c,d,.int i t,q
def SlR(X:Cx)(r:V->Option Int->Option Int->Hp->VK->Prop):Prop :=
 ∀(pins:Z8) (s:Shared) (σ:St) (H:Hp) (x:V) (v vl vu:Value) (lo hi:Option Int) (sl:Addr) (Q:VK),qI H s->RelV x v->s.heap.IsSliceOf sl vl vu .none->IsPart vl lo->IsPart vu hi->r x lo hi H Q ->
  ∃T id,typeLookup (.type T) "__getitem__"=pure (some (.builtin id))/\s.TypeIs v T/\qd X X.A (getItem v (.ref sl)) (EP X pins σ Q) X.xe s
def tSl(r:V->Option Int->Option Int->Hp->VK->Prop)(te:TE)(tl th:TO):TE:=fun σ H Q=>te σ H fun x H1=>tl σ H1 fun l H2=>th σ H2 fun u H3=>r x l u H3 Q
theorem Za{r:V->Option Int->Option Int->Hp->VK->Prop}(m:SlR X r)(he:PE X e te)(y:PO X lo tl)(n:PO X hi th):PE X (.Subscript e (.Slice lo hi none p2) pos) (tSl r te tl th):=by
 intro a s f H Q I h
 refine Subscript_ (thn (he a s f H _ I h) fun v E d=>?_)
 obtain⟨x,G,j,D,k⟩:=d
 refine wpAny_Slice (thn (y a E f G _ j k) fun vl s2 ⟨l,H2,I2,pl,q2⟩=>thn (n a s2 f H2 _ I2 q2) fun g c d=>?_)
 obtain⟨u,i,C,B,o⟩:=d
 rw[evalPart_none]
 refine jK ?_
 have z:Inv X a f i { c with heap:=c.heap.push { cls:=.type "slice",data:=.fields #[vl,g,.none] } }:=C.kept (t':=c.toks) fun b K q=>jV _ q
 obtain⟨T,id,J,p,F⟩:=m a { c with heap:=c.heap.push { cls:=.type "slice",data:=.fields #[vl,g,.none] } } f i x v vl g l u (qa c) Q z D (Heap.IsSliceOf.new ..) pl B o
 show qd X X.A (subscriptTail e (.Slice lo hi none p2) v (.ref (qa c))) (EP X a f Q) X.xe { c with heap:=c.heap.push { cls:=.type "slice",data:=.fields #[vl,g,.none] } }
 exact tail_any (ops:=[.ref (qa c),v]) p J F (by with_unfolding_all rfl)
def cutV(xs:List V)(lo hi:Option Int):List V:=(xs.drop (HT.sIx xs.length 0 lo)).take (HT.sIx xs.length xs.length hi-HT.sIx xs.length 0 lo)
theorem Qbs(xs:List V)(lo a:Option Int):(cutV xs lo a).length<=xs.length:=by
 unfold cutV
 rw[yY,jJc]
 lia
def rSlT(K:Fg):V->Option Int->Option Int->Hp->VK->Prop:=fun x lo hi H Q=>∃a xs,x=.ref a/\SqT K H a xs /\
 ¬(HT.sIx xs.length 0 lo=0/\HT.sIx xs.length xs.length hi=xs.length)/\∀p,H p=none->Q (.ref p) (upd H p (.tup (cutV xs lo hi)))
theorem Qdm:SlR X (rSlT X.K):=by
 intro j s z H x v B C e f A Q I w m l p h
 obtain⟨a,d,rfl,n,u,q⟩:=h
 cases w
 obtain⟨g,r,i,k⟩:=I.tuple n
 have c:g.toArray.size=d.length:=by rw[kQ];exact r.length.symm
 exists "tuple",_,PyProof.Rows.slot_tuple_getitem.lookup,i.typeIs,?_
 refine HT.getItem_tuple_cut i m l p (by rw[c];exact u) ?_ (by rw[c];exact k)
 rw[c]
 exists .ref (qa s),_,I.laid (t':=s.toks) (o:=.tup (cutV d e f)) (fun b y q=>jV _ q) (jZ _) ?_,rfl,q _ (I.hok.fresh (jZ _))
 exists jZa (Qbs d e f) k,_,(r.drop (HT.sIx d.length 0 e)).take (HT.sIx d.length d.length f-HT.sIx d.length 0 e),IsTup.new _ _
def rCatT(K:Fg):R2:=fun x y H Q=>∃a b xs ys,x=.ref a/\y=.ref b/\SqT K H a xs/\SqT K H b ys/\xs≠[]/\xs.length+ys.length<=sizeLine /\
 (ys=[]->Q (.ref a) H)/\(ys≠[]->∀p,H p=none->Q (.ref p) (upd H p (.tup (xs++ys))))
theorem Vals.nil_iff(r:Vals xs us):us=[]↔xs=[]:=by
 cases r with
 |nil=>simp
 |cons _ _=>simp
theorem Qik:OpR X (binaryOp .Add) (rCatT X.K):=by
 intro e s F H x y v u Q I B k h
 obtain⟨a,b,D,r,rfl,rfl,A,i,p,g,j,m⟩:=h
 cases B
 cases k
 obtain⟨C,d,l,_⟩:=I.tuple A
 obtain⟨f,c,n,_⟩:=I.tuple i
 refine HT.cat_tup l n (fun z=>p (d.nil_iff.mp z)) (fun z=>⟨.ref a,H,I,rfl,j (c.nil_iff.mp z)⟩) (fun z=>?_) (by rw[<-d.length,<-c.length];exact g)
 exists .ref (qa s),_,I.laid (t':=s.toks) (o:=.tup (D++r)) (fun b E q=>jV _ q) (jZ _) ?_,rfl,m (fun w=>z (c.nil_iff.mpr w)) _ (I.hok.fresh (jZ _))
 exists by rw[yQ];exact g,_,d.append c,IsTup.new _ _
end
def ixN(n:Nat)(i:Int):Option Nat:=if 0<=i then(if i<n then some i.toNat else none)else if -(n:Int)<=i then some (i+n).toNat else none
def atI{α:Type}(xs:List α)(i:Int):Option α:=(ixN xs.length i).bind fun j=>xs[j]?
theorem Qnp{i:Int}(h:ixN n i=some j):seqIndex? i n=some j/\j<n/\-(n:Int)<=i/\i<n:=by
 unfold ixN at h
 by_cases b:0<=i
 .rw[Y22 b]at h
  by_cases a:i<n
  .rw[Y22 a]at h
   have e:i.toNat=j:=Y5 h
   exists by rw[seqIndex_of b a,e],Om,Om,a
  .rw[Y20 a]at h;cases h
 .rw[Y20 b]at h
  by_cases a:-(n:Int)<=i
  .rw[Y22 a]at h
   have e:(i+n).toNat=j:=Y5 h
   exists by rw[seqIndex_neg Om a,e],Om,a,Om
  .rw[Y20 a]at h;cases h
theorem Qil{α:Type}{xs:List α}{i:Int}{v:α}(h:atI xs i=some v):∃j,seqIndex? i xs.length=some j/\xs[j]?=some v/\j<xs.length/\-(xs.length:Int)<=i/\i<xs.length:=by
 unfold atI at h
 cases e:ixN xs.length i with
 |none=>rw[e]at h;cases h
 |some j=>
  rw[e]at h
  obtain⟨d,c,a,b⟩:=Qnp e
  exists j,d,h,c,a,b
theorem Zy{α:Type}{xs:List α}{v:α}(h:xs[j]?=some v):atI xs (j:Int)=some v:=by
 have a:j<xs.length:=(jW.mp h).1
 have e:ixN xs.length (j:Int)=some j:=by
  unfold ixN
  rw[Y22 Om,Y22 Om];simp
 unfold atI;rw[e];exact h
def Qnq(b:Expr):Prop:=∀o i,subscripted b false o i=operate [o,i] (getItem o i)
def IxR(X:Cx)(r:R2):Prop :=
 ∀(value slice:Expr) (pins:Z8) (s:Shared) (σ:St) (H:Hp) (x y:V) (v u:Value) (Q:VK),qI H s->RelV x v->RelV y u->r x y H Q ->
  subscripted slice false v u=operate [v,u] (getItem v u)->qd X X.A (subscriptTail value slice v u) (EP X pins σ Q) X.xe s
def MtR(X:Cx)(id:String)(r:V->List V->Hp->VK->Prop):Prop :=
 ∀(pins:Z8) (s:Shared) (σ:St) (H:Hp) (x:V) (xs:List V) (v:Value) (us:List Value) (Q:VK),qI H s->RelV x v->Vals xs us->r x xs H Q ->
  qd X X.A (call (.builtin id) (v::us)) (EP X pins σ Q) X.xe s
section
variable{a b:Expr}{ta tb:TE}
theorem IxR.or{r r':R2}(h:IxR X r)(h':IxR X r'):IxR X (fun x y H Q=>r x y H Q\/r' x y H Q):=by
 intro a b c s e H x y v u Q I d g q f
 rcases q with q | q
 .exact h a b c s e H x y v u Q I d g q f
 .exact h' a b c s e H x y v u Q I d g q f
theorem Qo{r:R2}(i:IxR X r)(e:PE X a ta)(g:PE X b tb)(j:Qnq b:=by exact fun _ _=>rfl):PE X (.Subscript a b pos) (tOp r ta tb):=by
 intro c s f H Q I h
 exact Subscript_ (binT e g I h fun v u m x y n k d l q=>i a b c m f n x y v u Q k d l q (j _ _))
inductive rIxL(K:Fg)(x y:V)(H:Hp)(Q:VK):Prop|mk(p:Addr)(xs:List V)(i:Int)(v:V)(a:x=.ref p)(b:y=.int i)(c:SqL K H p xs)(d:atI xs i=some v)(q:Q v H):rIxL K x y H Q
inductive rIxT(K:Fg)(x y:V)(H:Hp)(Q:VK):Prop|mk(p:Addr)(xs:List V)(i:Int)(v:V)(a:x=.ref p)(b:y=.int i)(c:SqT K H p xs)(d:atI xs i=some v)(q:Q v H):rIxT K x y H Q
theorem ix_list:IxR X (rIxL X.K):=by
 intro e g a s l H x y v u Q I J B h m
 obtain⟨p,O,i,z,rfl,rfl,D,C,q⟩:=h
 cases J
 obtain⟨t,rfl⟩:=B
 obtain⟨f,r,c,P⟩:=I.list D
 obtain⟨j,b,L,M,F,A⟩:=Qil C
 obtain⟨w,n,d⟩:=r.get L
 have E:=r.length
 have N:=Qdk
 have fin:EP X a l Q w s:=⟨z,H,I,d,q⟩
 by_cases o:0<=i
 .have k:i.toNat=j:=by
   rw[seqIndex_of o A]at b
   exact Y5 b
  exact item_listR c.isList o Om (by rw[k];simpa using n) fin m
 .have k:(i+(f.toArray.size:Int)).toNat=j:=by
   rw[seqIndex_neg Om F]at b
   rw[kQ,<-E]
   exact Y5 b
  exact subscriptTail_builtinR (x:=w) c.isList.typeIs slot_list_getitem.lookup
   (wpAny_getItem_list_neg (Q:=fun r G=>r=w/\EP X a l Q r G) c.isList Om (by rw[kQ]<;>lia) Om (by rw[k];simpa using n) ⟨rfl,fin⟩) m
theorem Qm:IxR X (rIxT X.K):=by
 intro c d a s f H x y v u Q I C g h n
 obtain⟨p,M,i,z,rfl,rfl,l,k,q⟩:=h
 cases C
 obtain⟨t,rfl⟩:=g
 obtain⟨D,r,e,N⟩:=I.tuple l
 obtain⟨j,o,E,F,L,G⟩:=Qil k
 obtain⟨w,A,b⟩:=r.get E
 have m:=r.length
 have J:=Qdk
 have fin:EP X a f Q w s:=⟨z,H,I,b,q⟩
 exact subscriptTail_builtinR (x:=w) e.typeIs slot_tuple_getitem.lookup
  (getItem_tuple (j:=j) (Q:=fun r B=>r=w/\EP X a f Q r B) e Om Om (by rw[kQ,<-m];exact o) (by simpa using A) ⟨rfl,fin⟩) n
theorem Qlv(its:List Value)(n j:Nat)(u:Value):Obj.mapSeq (·.setIfInBounds j u) { cls:=.type "list",data:=.seq its.toArray n }={ cls:=.type "list",data:=.seq (its.set j u).toArray n }:=by
 simp[Obj.mapSeq]
theorem Inv.lst{pins:Z8}{σ:St}{H:Hp}{s:Shared}{p:Addr}{xs:List V}(I:qI H s)(h:H p=some (.lst xs)) :
  ∃(its:List Value) (n:Nat),Vals xs its/\s.heap.get? p=some { cls:=.type "list",data:=.seq its.toArray n }/\xs.length<=sizeLine:=by
 obtain⟨z,its,n,r,e⟩:=I.hok p _ h
 exists its,n,r,e,z
theorem Inv.lstUpd{p:Addr}{n':Nat}{f:Obj->Obj}(I:qI H s)(h:H p=some (.lst xs))
  (d:s.heap.get? p=some { cls:=.type "list",data:=.seq its.toArray n }) (a:f { cls:=.type "list",data:=.seq its.toArray n }={ cls:=.type "list",data:=.seq its'.toArray n' }) (r:Vals ys its') (hz:ys.length<=sizeLine) (t:Nat) :
  qI (upd H p (.lst ys)) { s with heap:=s.heap.update p f,toks:=t }:=by
 have e:(s.heap.update p f).get? p=some { cls:=.type "list",data:=.seq its'.toArray n' }:=by
  rw[jJa f d (by rw[a]<;>rfl),a]
 refine I.write (x:=p) (e:=p) (by rw[h];trivial) (.inl rfl) (fun b u c q=>(jZb _ _ (Ne.symm c)).trans q) ⟨_,e⟩ ?_
 exists hz,its',n',r,e
def rSetL:V->V->V->Hp->(Hp->Prop)->Prop:=fun o i v H Q=>∃p xs k j,o=.ref p/\i=.int k/\H p=some (.lst xs)/\ixN xs.length k=some j/\Q (upd H p (.lst (xs.set j v)))
theorem set_list:PSet X rSetL:=by
 intro a s y H o i v G J u Q I C z A h
 obtain⟨p,B,k,j,rfl,rfl,w,E,q⟩:=h
 cases C
 obtain⟨t,rfl⟩:=z
 obtain⟨b,n,r,f,D⟩:=I.lst w
 obtain⟨c,K,g,m⟩:=Qnp E
 have d:=r.length
 have F:=Qdk
 have l:Inv X a y (upd H p (.lst (B.set j v))) { s with heap:=s.heap.update p (Obj.mapSeq (·.setIfInBounds j u)) } :=
  I.lstUpd w f (Qlv b n j u) (r.set A j) (by rw[wW];exact D) s.toks
 by_cases x:0<=k
 .have e:k.toNat=j:=by
   rw[seqIndex_of x m]at c
   exact Y5 c
  exact PySem.W.ki_setAt f x Om (by rw[kQ,<-d];exact m) (by rw[e];exists _,l,q)
 .have e:(k+(b.toArray.size:Int)).toNat=j:=by
   rw[seqIndex_neg Om g]at c
   rw[kQ,<-d]
   exact Y5 c
  exact PySem.W.ki_setBack f Om (by rw[kQ,<-d];exact g) Om (by rw[e];exists _,l,q)
theorem Qbt(i:Int)(n d:Nat):max 0 (min (if i<0 then i+(n:Int)else i) (n:Int))=((HT.sIx n d (some i):Nat):Int):=by
 rw[<-HT.clip_eq]
 by_cases h:i<0
 .rw[Y22 h,Y22 h,Int.min_eq_left (by have:=Int.add_le_add_right (Int.le_of_lt h) (n:Int);rwa [yXc]at this),Int.max_comm]
 .rw[Y20 h,Y20 h,HT.min_cast i n h,Int.max_eq_right (jXa _)]
theorem Qgm(lo a:Option Int)(n:Nat):(sliceBounds lo a none n).1=((HT.sIx n 0 lo:Nat):Int)/\(sliceBounds lo a none n).2.1=((HT.sIx n n a:Nat):Int)/\(sliceBounds lo a none n).2.2=1:=by
 exists ?_,?_,rfl
 .cases lo with
  |none=>rfl
  |some i=>exact Qbt i n 0
 .cases a with
  |none=>rfl
  |some i=>exact Qbt i n n
theorem Qeh(its:List Value)(lo a:Option Int):slicePick its.toArray lo a none=((its.drop (HT.sIx its.length 0 lo)).take (HT.sIx its.length its.length a-HT.sIx its.length 0 lo)).toArray:=by
 obtain⟨c,d,b⟩:=Qgm lo a its.toArray.size
 unfold slicePick
 rw[c,d,b]
 simp only[sliceRange_one,pick_run,kQ]<;>rfl
def rSlL(K:Fg):V->Option Int->Option Int->Hp->VK->Prop:=fun x lo hi H Q=>∃a xs,x=.ref a/\SqL K H a xs/\∀p,H p=none->Q (.ref p) (upd H p (.lst (cutV xs lo hi)))
theorem Wy:SlR X (rSlL X.K):=by
 intro g s z H x v w A e f B Q I j n m l h
 obtain⟨a,c,rfl,u,q⟩:=h
 cases j
 obtain⟨k,r,i,p⟩:=I.list u
 have d:=r.length
 exists "list",_,slot_list_getitem.lookup,i.isList.typeIs,?_
 refine wpAny_getItem_list_slice i.isList n m l .none (by simp) ?_ (by rw[kQ]<;>lia)
 rw[Qeh,<-d]
 exists .ref (qa s),_,I.laid (t':=s.toks) (o:=.lst (cutV c e f)) (fun b y q=>jV _ q) (jZ _) ?_,rfl,q _ (I.hok.fresh (jZ _))
 exists jZa (Qbs c e f) p,_,0,(r.drop (HT.sIx c.length 0 e)).take (HT.sIx c.length c.length f-HT.sIx c.length 0 e),yJ _ rfl
def Qay:V->Bool
 |.non=>true
 |.bl _=>true
 |.int _=>true
 |.str _=>true
 |_=>false
def eqV:V->V->Bool
 |.non,.non=>true
 |.bl a,.bl b=>a == b
 |.bl a,.int b=>(if a then 1 else 0) == b
 |.int a,.bl b=>a == (if b then 1 else 0)
 |.int a,.int b=>a == b
 |.str a,.str b=>a == b
 |_,_=>false
theorem Qvj{x:V}{v:Value}(f:RelV y u)(c:RelV x v)(g:Qay y=true)(e:Qay x=true):SeqAt.EqAt A s u v (eqV y x):=by
 cases y with
 |non=>
  cases f
  cases x with
  |non=>cases c;exact SeqAt.EqAt.same _
  |bl b=>cases c;exact SeqAt.EqAt.none_bool b
  |int b=>obtain⟨t,rfl⟩:=c;exact SeqAt.EqAt.none_int b t
  |str b=>obtain⟨t,rfl⟩:=c;exact SeqAt.EqAt.none_str b t
  |_=>exact Y21 (show false=true from e) yX
 |bl a=>
  cases f
  cases x with
  |non=>cases c;exact SeqAt.EqAt.bool_none a
  |bl b=>cases c;exact SeqAt.EqAt.bool_bool a b
  |int b=>obtain⟨t,rfl⟩:=c;exact SeqAt.EqAt.bool_int a b t
  |str b=>obtain⟨t,rfl⟩:=c;exact SeqAt.EqAt.bool_str a b t
  |_=>exact Y21 (show false=true from e) yX
 |int a=>
  obtain⟨d,rfl⟩:=f
  cases x with
  |non=>cases c;exact SeqAt.EqAt.int_none a d
  |bl b=>cases c;exact SeqAt.EqAt.int_bool a d b
  |int b=>obtain⟨t,rfl⟩:=c;exact SeqAt.EqAt.int_int a d b t
  |str b=>obtain⟨t,rfl⟩:=c;exact SeqAt.EqAt.int_str a d b t
  |_=>exact Y21 (show false=true from e) yX
 |str a=>
  obtain⟨d,rfl⟩:=f
  cases x with
  |non=>cases c;exact SeqAt.EqAt.str_none a d
  |bl b=>cases c;exact SeqAt.EqAt.str_bool a d b
  |int b=>obtain⟨t,rfl⟩:=c;exact SeqAt.EqAt.str_int a d b t
  |str b=>obtain⟨t,rfl⟩:=c;exact SeqAt.EqAt.str_str a d b t
  |_=>exact Y21 (show false=true from e) yX
 |_=>exact Y21 (show false=true from g) yX
def eqU(x:V)(u:Value):Bool:=match u with
 |.none=>eqV .non x
 |.bool b=>eqV (.bl b) x
 |.int i _=>eqV (.int i) x
 |.str z _=>eqV (.str z) x
 |_=>false
theorem Qvk{x:V}(r:RelV y u)(f:Qay y=true):eqU x u=eqV y x:=by
 cases y with
 |non=>cases r;rfl
 |bl b=>cases r;rfl
 |int i=>obtain⟨t,rfl⟩:=r;rfl
 |str z=>obtain⟨t,rfl⟩:=r;rfl
 |_=>exact Y21 (show false=true from f) yX
theorem Qbu{x:V}:∀{xs:List V} {us:List Value},Vals xs us->xs.all Qay=true->us.any (eqU x)=xs.any fun y=>eqV y x
 |_,_,.nil,_=>rfl
 |y::xs,u::us,.cons r t,f=>by
  rw[List.all_cons,xV]at f
  rw[yQd,yQd,Qvk r f.1,Qbu t f.2]
theorem Vw{A:Around}{s:Shared}{x:V}{v:Value}(b:RelV x v)(a:Qay x=true):∀{xs:List V} {us:List Value},Vals xs us->xs.all Qay=true->∀u∈us,SeqAt.EqAt A s u v (eqU x u)
 |_,_,.nil,_=>fun u hu=>by cases hu
 |y::xs,u::us,.cons r t,f=>fun c hu=>by
  rw[List.all_cons,xV]at f
  rcases zK.mp hu with rfl | hu
  .rw[Qvk r f.1];exact Qvj r b f.1 a
  .exact Vw b a t f.2 c hu
def inV(x:V)(xs:List V):Bool:=xs.any fun y=>eqV y x
def rIn(K:Fg)(neg:Bool):R2:=fun x y H Q=>∃p xs,y=.ref p/\(SqL K H p xs\/SqT K H p xs)/\Qay x=true/\xs.all Qay=true/\Q (.bl (if neg then !inV x xs else inV x xs)) H
theorem Vx:OpR X (compareOp .In) (rIn X.K false):=by
 intro f s k H x y v u Q I d i h
 obtain⟨p,j,rfl,hq,e,fs,q⟩:=h
 cases i
 rcases hq with hq | hq
 .obtain⟨a,r,b,g⟩:=I.list hq
  refine SeqAt.in_listAt (eqU x) b.isList (fun w c=>Vw d e r fs w (by simpa using c)) ⟨.bl _,H,I,rfl,?_⟩
  rw[show a.toArray.any (eqU x)=a.any (eqU x)by simp,Qbu r fs]
  exact q
 .obtain⟨a,r,b,g⟩:=I.tuple hq
  refine SeqAt.in_tupleAt (eqU x) b (fun w c=>Vw d e r fs w (by simpa using c)) ⟨.bl _,H,I,rfl,?_⟩
  rw[show a.toArray.any (eqU x)=a.any (eqU x)by simp,Qbu r fs]
  exact q
theorem Qgn:OpR X (compareOp .NotIn) (rIn X.K true):=by
 intro f s k H x y v u Q I d i h
 obtain⟨p,j,rfl,hq,e,fs,q⟩:=h
 cases i
 rcases hq with hq | hq
 .obtain⟨a,r,b,g⟩:=I.list hq
  refine SeqAt.notIn_listAt (eqU x) b.isList (fun w c=>Vw d e r fs w (by simpa using c)) ⟨.bl _,H,I,rfl,?_⟩
  rw[show a.toArray.any (eqU x)=a.any (eqU x)by simp,Qbu r fs]
  exact q
 .obtain⟨a,r,b,g⟩:=I.tuple hq
  refine SeqAt.notIn_tupleAt (eqU x) b (fun w c=>Vw d e r fs w (by simpa using c)) ⟨.bl _,H,I,rfl,?_⟩
  rw[show a.toArray.any (eqU x)=a.any (eqU x)by simp,Qbu r fs]
  exact q
theorem Qj:Jb X (.builtin "len") (fun xs H Q=>∃p ys,xs=[.ref p]/\(SqL X.K H p ys\/SqT X.K H p ys)/\Q (.int ys.length) H):=by
 intro e s j H xs k Q I r h
 obtain⟨p,ys,rfl,hq,q⟩:=h
 obtain⟨u,rfl,f⟩:=vals1 r
 cases f
 have i:=Qdk
 rcases hq with hq | hq
 .obtain⟨b,d,c,g⟩:=I.list hq
  have a:=d.length
  exact Calls.call_len_list c.isList (by simp only[kQ]<;>lia) ⟨.int ys.length,H,I.tok _,⟨s.toks+1,by rw[kQ,a]⟩,q⟩
 .obtain⟨b,d,c,g⟩:=I.tuple hq
  have a:=d.length
  exact len_tuple c (by simp only[kQ]<;>lia) ⟨.int ys.length,H,I.tok _,⟨s.toks+1,by rw[kQ,a]⟩,q⟩
theorem Ym:Jb X (.type "list") (fun xs H Q=>∃p ys,xs=[.ref p]/\(SqL X.K H p ys\/SqT X.K H p ys)/\∀l,H l=none->Q (.ref l) (upd H l (.lst ys))):=by
 intro i s B H xs C Q I r h
 obtain⟨p,ys,rfl,hq,q⟩:=h
 obtain⟨u,rfl,A⟩:=vals1 r
 cases A
 have fin:∀(a:List Value),Vals ys a->ys.length<=sizeLine->∀(d:Heap) (f:Nat),(∀b o',s.heap.get? b=some o'->d.get? b=some o') ->
   d.get? (qa s)=some { cls:=.type "list",dict:=none,data:=.seq a.toArray f,slots:=#[] }->EP X i B Q (.ref (qa s)) { s with heap:=d }:=fun a g k d f j e=>
  ⟨.ref (qa s),_,I.laid (t':=s.toks) j (jZ _) (show ObjOk X.prog X.w _ d _ (.lst ys)from⟨k,a,f,g,e⟩),rfl,q _ (I.hok.fresh (jZ _))⟩
 rcases hq with hq | hq
 .obtain⟨a,g,v,k⟩:=I.list hq
  have m:=g.length
  obtain⟨o,z,y,n,x⟩:=v.isList
  exact call_list_seq p (.inl rfl) z y x (fun d f j e=>fin a g k d f j e) (by simp only[kQ]<;>lia)
 .obtain⟨a,g,v,k⟩:=I.tuple hq
  have m:=g.length
  obtain⟨o,z,y,n,x⟩:=v
  exact call_list_seq p (.inr rfl) z y x (fun d f j e=>fin a g k d f j e) (by simp only[kQ]<;>lia)
theorem Xb:Jb X (.type "tuple") (fun xs H Q=>∃p ys,xs=[.ref p]/\((SqL X.K H p ys/\∀l,H l=none->Q (.ref l) (upd H l (.tup ys)))\/(SqT X.K H p ys/\Q (.ref p) H))):=by
 intro a s k H xs z Q I r h
 obtain⟨p,ys,rfl,h⟩:=h
 obtain⟨u,rfl,v⟩:=vals1 r
 cases v
 rcases h with⟨f,q⟩ | ⟨f,q⟩
 .obtain⟨c,i,g,m⟩:=I.list f
  have n:=i.length
  refine call_tuple_list g.isList (fun d x=>?_) (by simp only[kQ]<;>lia)
  have j:Inv X a k H { s with heap:=d }:=I.kept (t':=s.toks) x
  have y:Inv X a k (upd H d.objs.size (.tup ys)) { s with heap:=d.push { cls:=.type "tuple",data:=.seq c.toArray } } :=
   j.laid (t':=s.toks) (fun b o e=>jV _ e) (jZ _) (show ObjOk X.prog X.w _ _ _ (.tup ys)from⟨m,c,i,IsTup.new _ _⟩)
  exists .ref d.objs.size,_,y,rfl,q _ (j.hok.fresh (jZ _))
 .obtain⟨c,i,g,m⟩:=I.tuple f
  exact call_tuple_same g ⟨.ref p,H,I,rfl,q⟩
def tyV(K:Fg)(T:String)(x:V)(H:Hp):Prop:=match x with
 |.str _=>T="str"
 |.int _=>T="int"
 |.ref p=>(T="list"/\∃xs,SqL K H p xs)\/(T="tuple"/\∃o,K.lookup p=some o/\o.cls=.type "tuple"/\o.dict=none) \/
   (T="dict"/\((∃kvs,H p=some (.dK kvs))\/∃kvs,H p=some (.dT kvs)))\/(T="set"/\∃S n,H p=some (.set S n))
 |_=>False
theorem tyV_is{x:V}{v:Value}(I:qI H s)(r:RelV x v)(f:tyV X.K T x H) :
  s.TypeIs v T/\∀a,v=.ref a->∃ob,s.heap.get? a=some ob/\ob.dict=none:=by
 cases x with
 |str z=>
  obtain⟨t,rfl⟩:=r
  cases(show T="str" from f)
  exists typeIs_str s z t,fun _ e=>nomatch e
 |int i=>
  obtain⟨t,rfl⟩:=r
  cases(show T="int" from f)
  exists typeIs_int s i t,fun _ e=>nomatch e
 |ref p=>
  cases r
  rcases f with⟨rfl,u,m⟩ | ⟨rfl,o,b,q,g⟩ | ⟨rfl,b⟩ | ⟨rfl,S,n,b⟩
  .obtain⟨l,_,k,_⟩:=I.list m
   exists k.isList.typeIs,fun a e=>?_
   cases e
   obtain⟨o,n,e,c,g,_⟩:=k
   exists o,e,g
  .refine⟨⟨o,I.kIn p o b,q⟩,fun a e=>?_⟩
   cases e
   exists o,I.kIn _ o b,g
  .have z:∃o,s.heap.get? p=some o/\o.ExactDict:=by
    rcases b with⟨j,b⟩ | ⟨j,b⟩
    .obtain⟨_,_,_,_,o,_,_,e,d,_⟩:=I.hok p _ b
     exists o,e,d
    .obtain⟨_,_,_,_,o,_,_,e,d,_⟩:=I.hok p _ b
     exists o,e,d
   obtain⟨o,e,d⟩:=z
   exists ⟨o,e,d.1⟩,fun a h=>?_
   cases h
   exists o,e,d.2.1
  .obtain⟨o,_,_,_,e,d,_⟩:=I.hok p _ b
   exists ⟨o,e,d.1⟩,fun a h=>?_
   cases h
   exists o,e,d.2.1
 |_=>exact False.elim f
def tBM(K:Fg)(T:String)(r:V->List V->Hp->VK->Prop)(to:TE)(t:TA):TE:=fun σ H Q=>to σ H fun x H1=>tyV K T x H1/\t σ H1 fun xs H2=>r x xs H2 Q
variable{o:Expr}{to:TE}{t:TA}{name:Str}{apos cpos:Pos}{id:String}{r:V->List V->Hp->VK->Prop}
theorem Wz(n:PlainAttrs T)(f:Slot T name id)(j:typeOf (.builtin id)=pure (.type "method_descriptor"))(C:MtR X id r)(y:PE X o to)(w:PA X (e::es) t)
  (b:qb (attributeBase o name X.env (eval o X.env)=eval o X.env))
  (d:((backTo cpos (starEach (e::es) X.env)).all (fun x=>!x.1)&&(backToKw cpos (keywordEach [] X.env)).all (fun x=>x.1.isSome)
   && decide ((e::es).length+([]:List Keyword).length+(if ([]:List Keyword).isEmpty then 0 else 1)<30))=true:=by rfl)
  (c:qb ((apos.endLine == cpos.line)=true)) (q:qb (starEach (e::es) X.env=(false,eval e X.env)::starEach es X.env)) (hplain:qb ((backTo cpos (starEach es X.env)).any (·.1)=false)) :
  PE X (.Call (.Attribute o name apos) (e::es) [] cpos) (tBM X.K T r to t):=by
 intro a s g H Q I h
 refine wpAny_Call_method_late b d c rfl (thn (y a s g H _ I h) fun v z i=>?_)
 obtain⟨x,B,k,m,D,p⟩:=i
 obtain⟨u,A⟩:=tyV_is k m D
 exists T,id,n,f,j,u,A,?_
 have l:=w cpos a z g B _ k p
 rw[q]at l⊢
 refine Calls.callWith_builtin (by show(false||(backTo cpos (starEach es X.env)).any (·.1))=false;rw[hplain]<;>rfl) (Calls.evalArgs_plain ?_)
 exact thn l fun us s2 ⟨vs,H2,I2,r2,q2⟩=>C a s2 g H2 x vs v us Q I2 m r2 q2
end
def MtM(X:Cx)(id:String)(r:V->List V->Hp->VK->Prop):Prop :=
 ∀(pins:Z8) (s:Shared) (σ:St) (H:Hp) (x:V) (xs:List V) (v:Value) (us:List Value) (Q:VK),qI H s->RelV x v->Vals xs us->r x xs H Q ->
  qd X X.A (call (.builtin id) (v::us)) (EP X pins σ Q) X.xe s
theorem Vals.one{x:V}(h:Vals [x] us):∃u,us=[u]/\RelV x u:=by
 cases h with
 |cons r t=>cases t;exists 4,r
theorem Vals.two{x:V}(h:Vals [x,y] us):∃u v,us=[u,v]/\RelV x u/\RelV y v:=by
 cases h with
 |cons r t=>
  cases t with
  |cons q t=>cases t;exists _,4,r,q
theorem Vals.rep{xs:List V}{us:List Value}(h:Vals xs us):∀k:Nat,Vals (qg k xs).flatten (qg k us).flatten
 |0=>.nil
 |k+1=>by
  rw[jXf,jXf,kXf,kXf]
  exact Vals.append h (Vals.rep h k)
theorem foldl_rep(its:List Value):∀(k:Nat) (acc:List Value),
  List.foldl (fun x1 x2=>x1++x2) acc.toArray (qg k its.toArray)=(acc++(qg k its).flatten).toArray
 |0,acc=>by simp
 |k+1,acc=>by
  have e:acc.toArray++its.toArray=(acc++its).toArray:=by simp
  have a:(acc++its)++(qg k its).flatten=acc++(qg (k+1) its).flatten:=by
   rw[jXf,kXf,List.append_assoc]
  rw[<-a,<-foldl_rep its k (acc++its),<-e,jXf,kXd]
theorem Inv.lset{f:Array Value->Array Value}(I:qI H s)(g:H l=some (.lst xs))
  (e:s.heap.get? l=some { cls:=.type "list",data:=.seq its.toArray n }) (a:f its.toArray=its'.toArray) (hv:Vals ys its') (hz:ys.length<=sizeLine) :
  qI (upd H l (.lst ys)) { s with heap:=s.heap.update l (Obj.mapSeq f),toks:=t' }:=by
 have q:=PySem.IsL.update e f
 rw[a]at q
 refine I.write (x:=l) (e:=l) (by rw[g];exact trivial) (.inl rfl) (fun h u c d=>(jZb s.heap (Obj.mapSeq f) (Ne.symm c)).trans d) ⟨_,q⟩ ?_
 exists hz,its',_,hv,q
theorem Inv.lnew(I:qI H s)(hv:Vals ys its)(hz:ys.length<=sizeLine) :
  qI (upd H (qa s) (.lst ys)) { s with heap:=s.heap.push { cls:=.type "list",data:=.seq its.toArray },toks:=t' } :=
 I.laid (fun _ _ q=>jV _ q) (jZ _) ⟨hz,its,0,hv,yJ _ rfl⟩
theorem Inv.fresh(I:qI H s):H (qa s)=none:=I.hok.fresh (jZ _)
theorem Inv.lstM(I:qI H s)(a:H l=some (.lst xs)):xs.length<=sizeLine/\∃(its:List Value) (n:Nat),Vals xs its/\xs.length=its.length/\s.heap.get? l=some { cls:=.type "list",data:=.seq its.toArray n }:=by
 obtain⟨z,its,n,r,e⟩:=I.hok l _ a
 exists z,its,n,r,r.length,e
theorem Qsi(h:n<=sizeLine):Builtin.List.listTooLong n=false:=by
 unfold Builtin.List.listTooLong
 exact zJ Om
def Qwm:V->List V->Hp->VK->Prop:=fun x vs H Q=>∃l xs y,x=.ref l/\vs=[y]/\H l=some (.lst xs)/\xs.length<sizeLine/\Q .non (upd H l (.lst (xs++[y])))
theorem Ye:MtM X "list.append" Qwm:=by
 intro b s j H x p v m Q I d f h
 obtain⟨l,i,y,rfl,rfl,c,o,q⟩:=h
 cases d
 obtain⟨u,rfl,g⟩:=f.one
 obtain⟨z,a,n,r,k,e⟩:=I.lstM c
 refine call_meets F.slot_list_append ⟨_,e,rfl⟩ F.entry_list_append (F.args_list_append_2 _ _) (PySem.list_append l a.toArray n u (by rw[kQ];lia)) ⟨e,?_⟩
 exists .non,_,I.lset (its':=a++[u]) c e (by simp) (r.append (.cons g .nil)) ?_,rfl,q
 rw[yQ,yYb]
 lia
def rCat:R2:=fun x y H Q=>∃l b xs zs,x=.ref l/\y=.ref b/\H l=some (.lst xs)/\H b=some (.lst zs)/\xs.length+zs.length<=sizeLine/\∀p,H p=none->Q (.ref p) (upd H p (.lst (xs++zs)))
theorem op_cat:OpR X (binaryOp .Add) rCat:=by
 intro d s B H x y v u Q I f o h
 obtain⟨l,b,w,E,rfl,rfl,p,m,D,q⟩:=h
 cases f
 cases o
 obtain⟨z,c,n,r,C,e⟩:=I.lstM p
 obtain⟨A,a,F,k,j,i⟩:=I.lstM m
 refine PySem.P.add_list e i ?_ (by rw[kQ,kQ];lia)
 have g:c.toArray++a.toArray=(c++a).toArray:=by simp
 rw[g]
 exists .ref _,_,I.lnew (t':=s.toks) (r.append k) (by rw[yQ];lia),rfl,q _ I.fresh
def rRep:R2:=fun x y H Q=>∃l k xs,x=.ref l/\y=.int k/\H l=some (.lst xs)/\-(2 ^ 63)<=k/\k<2 ^ 63/\xs.length*k.toNat<=sizeLine /\
 ∀p,H p=none->Q (.ref p) (upd H p (.lst (qg k.toNat xs).flatten))
theorem len_rep{α:Type}(xs:List α)(k:Nat):(qg k xs).flatten.length=k*xs.length:=by
 induction k with
 |zero=>simp
 |succ k ih=>rw[jXf,kXf,yQ,ih,Nat.succ_mul,yXd]
theorem Kq:OpR X (binaryOp .Mult) rRep:=by
 intro p s L H x y v u Q I G A h
 obtain⟨l,k,M,rfl,rfl,B,D,J,w,q⟩:=h
 cases G
 obtain⟨t,rfl⟩:=A
 obtain⟨z,b,n,r,C,e⟩:=I.lstM B
 have f:b.toArray.size*k.toNat<=sizeLine:=by rw[kQ,<-C];exact w
 have d:¬b.toArray.size*k.toNat > (2 ^ 63-1) / 8:=by
  have:(sizeLine:Nat)<=(2 ^ 63-1) / 8:=Dc
  lia
 have i:¬(!Builtin.List.listFitsIndex k)=true:=by
  rw[fitsIndex_both D J]
  exact yX
 have c:¬Builtin.List.listTooLong (b.toArray.size*k.toNat)=true:=by
  rw[Qsi f]
  exact yX
 have g:List.foldl (fun o j=>o++j) #[] (qg (if b.toArray.isEmpty=true then 0 else k.toNat) b.toArray)=(qg k.toNat b).flatten.toArray:=by
  have K:∀m:Nat,List.foldl (fun o j=>o++j) #[] (qg m b.toArray)=(qg m b).flatten.toArray:=fun m=>by
   have:=foldl_rep b m []
   rw[List.nil_append]at this
   exact this
  rw[K]
  cases b with
  |nil=>simp
  |cons a r'=>rw[Y20 (by simp)]
 refine wpAny_binaryOp_repeat_ref (T:="list") (U:="int") Dc ⟨_,e,rfl⟩ (fun E=>typeIs_int E k t) noFill_list_mul F.fills_int_mul F.slot_int_rmul repeat_list F.slot_int_index.lookup
  (call_meets F.slot_int_rmul (typeIs_int s k t) F.entry_int_rmul (F.args_int_rmul_2 _ _) (int___rmul___int_list k t l b.toArray n)
   ⟨e,rfl,⟨_,e,rfl⟩,call_meets F.slot_list_mul ⟨_,e,rfl⟩ F.entry_list_mul (F.args_list_mul_2 _ _) (AutoListH.list___mul___list_int_3 l b.toArray n k t i d c) ⟨e,?_⟩⟩)
 rw[g]
 exists .ref _,_,I.lnew (t':=s.toks) (r.rep k.toNat) (by rw[len_rep,yXe];exact w),rfl,q _ I.fresh
end L2
namespace Att
open PySem PySem.W PySem.Calls PyProof.Rows
theorem Qbv{P:Params}:∀(ns:List Int) (vs:List Value),WellAll P h vs (ns.map WData.int)->IntsAre vs ns:=by
 intro ns
 induction ns with
 |nil=>
  intro vs w
  rw[kYe]at w
  cases w
  exact .nil
 |cons n ns ih=>
  intro vs w
  rw[xZ]at w
  cases w with
  |cons a b=>
   cases a
   exact .cons _ _ (ih _ b)
theorem Qnr{l:OpenLaw}(o:l.most=some n){P:Params}{args:List WData}{vals:List Value}
  (b:l.row.toRowW.claim.pre args=true) (i:WellAll P h vals args) :
  ∃a vs ns,vals=[Value.ref a]/\args=[WData.list (ns.map WData.int)]/\h.get? a=some { cls:=.type "list",data:=.seq vs.toArray }/\IntsAre vs ns/\ns.length<=n:=by
 have g:WShape.hasAll [] args [.list .int]=true:=(pre_splitW b).1
 have j:l.pre.holds [] { args:=args }=true:=(pre_splitW b).2
 obtain⟨d,r,rfl,p,m⟩:=hasAllW_cons g
 obtain rfl:=hasAllW_nil m
 obtain⟨t,rfl,k⟩:=hasW_list p
 obtain⟨ns,rfl⟩:=items_int k
 have c:ns.length<=n:=by
  unfold OpenLaw.pre at j
  have f:(WTm.not (.lt (.lit (.int (n:Int))) (.len (.arg 0)))).holds [] { args:=[.list (ns.map .int)] }=true:=by
   have f:=(holds_andW j).1
   rw[o]at f
   exact f
  have e:=condW_of f (w_not (w_lt w_lit (w_len_list (w_arg rfl))))
  rw[jQ]at e
  refine Nat.le_of_not_lt fun q=>?_
  have s:(n:Int)<(ns.length:Int):=Om
  first
   |(rw[zX s]at e;exact Y21 e Dc)
   |(simp at e;lia)
 cases i with
 |cons w1 w2=>
  cases w2
  cases w1 with
  |list ho hall=>exists _,_,ns,rfl,rfl,ho,Qbv ns _ hall,c
theorem Qns(l:OpenLaw)(args:List WData):l.row.toRowW.claim.post args (.bool true) args=true :=
 postW_of (r:=l.row.toRowW) (X:=(true == true))
  (show WShape.has [] (.bool true) .bool=true by first | rfl | decide | simp[WShape.has,WShape.arms,WShape.armsAll])
  (show(WTm.eq .res (.lit (.bool true))).value [] { args:=args,res:=some (.bool true),after:=args }=some (.bool (true == true))from w_eq_bool (w_res rfl) w_lit) rfl
end Att
namespace L2
open PySem PySem.Spec PyProof.Rows
theorem Qgo:∀{vs:List Value} {ns:List Int},IntsAre vs ns->Vals (ns.map V.int) vs
 |_,_,.nil=>.nil
 |_,_,.cons n t h=>.cons ⟨t,rfl⟩ (Qgo h)
def Only(H:Hp):Prop:=∀b,H b=none\/∃o xs,H b=some (.frz o (.lst xs))
theorem Qsj{mb:Z9}{CX:CXT}{k:Nat}{fa:Addr}{s₁:Shared}{vs:List Value}
  (U:K.In s₁.heap) (y:s₁.heap.Ns mainGlobals mg) (f:s₁.heap.Ns builtinsNs mb) (G:∀x:Str,x≠"__name__"->mb x=bootBuiltins x) (A:s₁.heap.NoLimit) (hg:s₁.gens=#[])
  (E:s₁.heap.get? a=some { cls:=.type "list",data:=.seq vs.toArray }) (O:IntsAre vs ns) (Q:ns.length<=sizeLine) (Z:Room k callerA)
  (F:∀base:Heap,K.In base->base.Ns mainGlobals mg->FnOk P w K mg base CX k fa fd [x] sp) (j:∀(s:Shared) (u:Value),BindsTo s fd ⟨[u],[]⟩ [(x,u)])
  (N:∀H:Hp,Only H->SqL K H a (ns.map V.int)->sp [.ref a] H (fun v _=>v=.bl true) fun _ _ _=>False)
  (L:∀H e s',CX [] H s₁ (fun _ _ _=>False) e s'->False) :
  codeAny (model P w) callerA (.call (.ref fa) ⟨[.ref a],[]⟩) (fun r s'=>r=.ok (.ret (.bool true))/\OldK s₁.heap s'.heap/\s'.os=s₁.os/\AllBare s'.gens) s₁:=by
 have T:=Qgo O
 have C:=O.length
 -- from an abstract heap in which nothing but the script may be tracked
 have i:∀H:Hp,Only H->SqL K H a (ns.map V.int)->HOk P w H s₁.heap->(∀b,H b≠none->b=a)->(H a≠none->K.lookup a=none) ->
   codeAny (model P w) callerA (.call (.ref fa) ⟨[.ref a],[]⟩) (fun r s'=>r=.ok (.ret (.bool true))/\OldK s₁.heap s'.heap/\s'.os=s₁.os/\AllBare s'.gens) s₁:=by
  intro H W hS p R hK
  have c:∀{b:Addr} {o:Obj},s₁.heap.get? b=some o->H b=none->(hidT s₁.heap H).get? b=some o:=fun e n=>Qsb e n
  have J:∀{b:Addr} {o:Obj} {es:Array DictEntry} {ep:Nat},s₁.heap.get? b=some o->o.data=.dict es ep->H b=none:=fun{b o es ep} e d=>by
   cases q:H b with
   |none=>rfl
   |some u=>
    have I:b=a:=R b (by rw[q];simp)
    subst I
    rw[E]at e;cases e
    have d':Data.seq vs.toArray _=Data.dict es ep:=d
    cases d'
  have g:∀{b:Addr} {m:Z9},s₁.heap.Ns b m->(hidT s₁.heap H).Ns b m:=fun{b m} ⟨o,es,ep,e,d,r⟩=>⟨o,es,ep,c e (J e d),d,r⟩
  have t:K.In (hidT s₁.heap H):=fun b o e=>c (U b o e) (by
   cases q:H b with
   |none=>rfl
   |some u=>
    have I:b=a:=R b (by rw[q];simp)
    subst I
    rw[hK (by rw[q];simp)]at e;cases e)
  have hM:Mod K mg (hidT s₁.heap H):=⟨t,g y,⟨mb,g f,G⟩,let ⟨mc,h1,h2⟩:=A;⟨mc,g h1,h2⟩⟩
  have e0:Env0 P w K mg (hidT s₁.heap H) callerA [] s₁ H:=⟨rfl,hM,fun b o e=>Qwg e,Nat.le_of_eq (Qmz _ _),trivial,fun b f=>Y21 (show b∈([]:List Addr)from f) (by simp),p,.of_eq hg⟩
  refine codeAny_mono ((F _ t (g y)).run callerA [] s₁ H ⟨[.ref a],[]⟩ [.ref a] [.ref a] _ _ Z e0 (j s₁ (.ref a)) (.cons rfl .nil) (N H W hS)) fun r s' h=>?_
  cases r with
  |error e=>exact(L H e s' h).elim
  |ok fl=>
   cases fl with
   |next=>exact False.elim h
   |brk=>exact False.elim h
   |cont=>exact False.elim h
   |ret u=>
    obtain⟨v,H',os,D,un,B,r',q⟩:=h
    have q':v=.bl true:=q
    subst q'
    obtain rfl:u=Value.bool true:=r'
    exists rfl,OldK.of_keep fun b o e=>?_,os,D
    cases q:H b with
    |none=>exact un.keep b o e q (by intro z;exact Y21 (show b∈([]:List Addr)from z) (by simp)) (by simp)
    |some u=>
     rcases W b with z | ⟨X,xs,z⟩
     .rw[q]at z;cases z
     .have Y:=un.frzs b X _ z
      obtain⟨S,_⟩:=p b _ z
      obtain⟨e2,_⟩:=B b _ Y
      rw[e]at S;cases S
      exact e2
 cases M:K.lookup a with
 |some o=>
  -- the script is one of the module's own objects
  have e:=U a o M
  rw[E]at e
  cases e
  refine i (fun _=>none) (fun _=>.inl rfl) (.inr ⟨_,vs.toArray,_,M,rfl,rfl,rfl,by rw[kQ,C];exact Q,by simpa using T⟩) (fun b u z=>by have l:(none:Option HO)=some u:=z;cases l) (fun b z=>Y21 rfl z) fun z=>Y21 rfl z
 |none=>
  refine i (fun b=>if b=a then some (.frz { cls:=.type "list",data:=.seq vs.toArray } (.lst (ns.map V.int)))else none) (fun b=>?_) (.inl (.inr ⟨{ cls:=.type "list",data:=.seq vs.toArray },Y22 rfl⟩)) (fun b u z=>?_) (fun b z=>?_) fun _=>M
  .by_cases f:b=a
   .exact .inr ⟨_,_,Y22 f⟩
   .exact .inl (Y20 f)
  .by_cases f:b=a
   .have l:=(Y22 f).symm.trans z
    cases l
    subst f
    exists E,by rw[jQ];exact Q,vs,_,T,E
   .have l:=(Y20 f).symm.trans z
    cases l
  .by_cases f:b=a
   .exact f
   .exact Y21 (Y20 f) z
abbrev KOf{K:Fg}{h:Heap}(_:K.In h):Fg:=K
end L2
namespace L2
open PySem PySem.Spec PyProof.Rows
def Qu(s:Stmt):Arguments:=match s with
 |.FunctionDef _ a _ _ _ _ _ _ _ _=>a
 |_=>{ posonlyargs:=[],args:=[],vararg:=none,kwonlyargs:=[],kw_defaults:=[],kwarg:=none,defaults:=[] }
def Qs(s:Stmt):List Stmt:=match s with
 |.FunctionDef _ _ b _ _ _ _ _ _ _=>b
 |_=>[]
def Qf(s:Stmt):Scope:=match s with
 |.FunctionDef _ _ _ _ _ _ sc _ _ _=>sc
 |_=>{ kind:=.function,names:=[],isGenerator:=false,isCoroutine:=false }
abbrev CX0:CXT:=fun _ _ _ _ _ _=>False
abbrev E0:XK:=fun _ _ _=>False
theorem Qwn:Qjw CX0 X E0:=fun _ _ _ _ _ _ _ h=>h.elim
structure Fun(K:Fg)(x qual:Str)(st:Stmt)(f:Addr)(fd:FuncData):Prop where
 ex:∃(oc:Value) (od:Option Addr) (kV doc pm:Value) (an:Option Addr) (cdv ct:Value) (osl:Array (Option Value)),
  fd=PySem.W.fnOf x qual (Qu st) (Qs st) (Qf st) .none kV doc pm an cdv ct/\K.lookup f=some ⟨oc,od,.func fd,osl⟩/\PySem.W.codeIn K cdv qual=true
 kp:PySem.W.keepIn K (.ref f)=true
theorem Fun.ok{st:Stmt}{ps:List Str}{k:Nat}(F:Fun K x qual st f fd)(S:FnScope N ps (Qf st))(len:autoParam (∀vs H Q E,sp vs H Q E->vs.length=ps.length) J8._auto_1)
  (a:∀(cdv:Value) (A:Around) (outer:List Env) (s:Shared) (H:Hp) (vs:List V) (Q:VK) (E:XK),Room k (A.deeper (envOfC qual (Qf st) (qa s) f cdv))->sp vs H Q E ->
   ∃t,PSs (cxOf CX0 P w K mg base N qual (Qf st) f cdv A outer s H E).nox (Qs st) t/\t { nx:=fun _ H'=>Q .non H',rt:=Q } (start N vs) H):FnOk P w K mg base CX0 (k+1) f fd ps sp:=by
 obtain⟨m,l,kV,g,j,o,cdv,n,d,rfl,e,c⟩:=F.ex
 refine fn_of e c S len fun A outer s H vs Q E i b=>?_
 obtain⟨t,h,q⟩:=a cdv A outer s H vs Q E i b
 exists t,h.nox,q
theorem Fun.binds{st:Stmt}{ps:List Str}(F:Fun K x qual st f fd)
  (h:autoParam (∀(kV doc pm:Value) (an:Option Addr) (cdv ct:Value) (us:List Value),us.length=ps.length->bindArgs (PySem.W.fnOf x qual (Qu st) (Qs st) (Qf st) .none kV doc pm an cdv ct) ⟨us,[]⟩=pure (ps.zip us)) J7._auto_1):Binds K fd ps []:=by
 obtain⟨e,c,kV,doc,pm,an,cdv,ct,a,rfl,d,b⟩:=F.ex
 exact .all (h kV doc pm an cdv ct)
theorem fun_mk{st:Stmt}{kV:Value}(l:K.lookup f=some ⟨oc,od,.func (PySem.W.fnOf x qual (Qu st) (Qs st) (Qf st) .none kV doc pm an cdv ct),osl⟩)
  (c:PySem.W.codeIn K cdv qual=true) (k:PySem.W.keepIn K (.ref f)=true):Fun K x qual st f (PySem.W.fnOf x qual (Qu st) (Qs st) (Qf st) .none kV doc pm an cdv ct):=⟨⟨oc,od,kV,doc,pm,an,cdv,ct,osl,rfl,l,c⟩,k⟩
theorem pv(i:Nat)(b:qb (X.N[i]?=some x))(hv:Vis X.env.scope x:=by first | exact inl rfl | exact Or.inr (inl rfl) | exact Or.inr (Or.inr rfl))(hd:qc ((x == ("__debug__":Str))=false))
  (a:qc ((x == ("__classdict__":Str))=false)):PE X (.Name x pos) (tVar i):=pe_var b hv hd a
theorem iteF{A B:Prop}(h:B):if false=true then A else B:=by
 rw[Y20 yX]
 exact h
theorem iteT{A B:Prop}(h:A):if true=true then A else B:=by
 rw[Y22 rfl]
 exact h
theorem ite2{c A B:Prop}[Decidable c](a:c->A)(b:¬c->B):if c then A else B:=by
 by_cases h:c
 .rw[Y22 h]
  exact a h
 .rw[Y20 h]
  exact b h
def Same(H H':Hp):Prop:=∀b o,H b=some o->H' b=some o
theorem Same.refl(H:Hp):Same H H:=fun _ _ h=>h
theorem Same.trans{H2:Hp}(a:Same H H1)(b:Same H1 H2):Same H H2:=fun c o h=>b c o (a c o h)
theorem Same.seq(e:Same H H')(h:SqL K H a xs):SqL K H' a xs:=by
 rcases h with(h | ⟨o,h⟩) | h
 .exact .inl (.inl (e _ _ h))
 .exact .inl (.inr ⟨o,e _ _ h⟩)
 .exact .inr h
theorem Qgp{prog:Program}{R:Result->Shared->Prop}{target:Expr}{it acc:Value}{env:Env}(I:Nat->Shared->Prop)
  (b:∀n s,I n s->qe prog w A (pyNext it) (fun r s1=>match r with
   |none=>R (.ok .next) s1
   |some v=>qe prog w A (letOwnedTupleGo target it v) (fun _ s1'=>qe prog w A (assign target env v) (fun _ s2=>
     qe prog w A (forIn ifs true fun c r=>if r=true then do let ok ← isTrue c env (eval c env);pure (ForInStep.yield ok)else pure (ForInStep.yield r)) (fun ok s3=>
      if ok=true then qe prog w A (eval elt env) (fun x s4=>
       qe prog w A (call (.builtin "list.append") [acc,x]) (fun _ s5=>∃m,m<n/\I m s5) (fun _ _=>False) s4) (fun _ _=>False) s3
      else ∃m,m<n/\I m s3) (fun _ _=>False) s2) (fun _ _=>False) s1') (fun _ _=>False) s1) (fun _ _=>False) s)
  (n:Nat) (h:I n s) :
  codeAny (model prog w) A (.compLoop (.ListComp elt [⟨target,iter,ifs,0⟩] scope pos) 0 it acc env) R s:=by
 refine codeAny_loop rfl I (fun n s i=>?_) n h
 show wpAny _ A ((compTurn (.ListComp elt [⟨target,iter,ifs,0⟩] scope pos) 0 it acc env).onRaise (fun x=>do noteFrame x env;theTreesLotGoes x)) _ _ s
 refine wpAny_noted ?_
 rw[compTurn_list]
 refine jX (wpAny_standAt (jX (Y29 (b n s i) (fun r s1 f=>?_) fun _ _ a=>a.elim)))
 cases r with
 |none=>exact jK f
 |some v=>
  refine jX (Y29 f (fun _ s1' d=>?_) fun _ _ a=>a.elim)
  refine jX (Y29 d (fun _ s2 g=>jX (Y29 g (fun ok s3 e=>?_) fun _ _ a=>a.elim)) fun _ _ a=>a.elim)
  cases ok with
  |false=>exact jK ⟨rfl,e⟩
  |true=>
   exact jX (jX (Y29 e (fun x s4 k=>jX (Y29 k (fun _ s5 j=>jK (jK ⟨rfl,j⟩)) fun _ _ a=>a.elim)) fun _ _ a=>a.elim))
def freeOk(sc:Scope):List (Str×NameKind)->Bool
 |[]=>true
 |(n,k)::r=>(k != .free||sc.names.lookup n == some .cell||sc.names.lookup n == some .free)&&freeOk sc r
def Zq(env:Env):List (Str×NameKind)->List (Str×Addr)->List (Str×Addr)
 |[],cs=>cs
 |(n,k)::r,cs=>Zq env r (if k=.free then(n,(env.cells.lookup n).getD 0)::cs else cs)
theorem Vq{env:Env}:∀(l:List (Str×NameKind)) (cs:List (Str×Addr)),(∀n,(n,NameKind.free)∈l->∃c,env.cells.lookup n=some c)->(∀x c,cs.lookup x=some c->env.cells.lookup x=some c) ->
  ∀x c,(Zq env l cs).lookup x=some c->env.cells.lookup x=some c
 |[],cs,_,h=>h
 |(n,k)::r,cs,hl,h=>by
  refine Vq r _ (fun m f=>hl m (zY _ f)) fun x c e=>?_
  by_cases a:k=.free
  .rw[Y22 a]at e
   subst a
   obtain⟨g,d⟩:=hl n kY
   rw[jKb]at e
   cases b:x == n with
   |true=>
    rw[b]at e
    have:x=n:=by simpa using b
    subst this
    rw[d]at e
    simp at e
    rw[d,e]
   |false=>rw[b]at e;exact h x c e
  .rw[Y20 a]at e
   exact h x c e
theorem Vr{env:Env}:∀(l:List (Str×NameKind)) (cs:List (Str×Addr)) (x:Str),((cs.lookup x).isSome=true\/(x,NameKind.free)∈l)->((Zq env l cs).lookup x).isSome=true
 |[],cs,x,h=>by
  rcases h with h | h
  .exact h
  .exact nomatch h
 |(n,k)::r,cs,x,h=>by
  refine Vr r _ x ?_
  rcases h with h | h
  .left
   split
   .rw[jKb]
    split
    .rfl
    .exact h
   .exact h
  .rcases zK.mp h with e | e
   .cases e
    left
    rw[Y22 rfl,jKb]
    simp
   .exact .inr e
theorem Kh{env:Env}(h:∀n,(n,NameKind.free)∈scope.names->∃c,env.cells.lookup n=some c):closureFor scope env=pure (Zq env scope.names []):=by
 unfold closureFor
 suffices ∀(l:List (Str×NameKind)) (b:List (Str×Addr)),(∀n,(n,NameKind.free)∈l->∃c,env.cells.lookup n=some c)->(forIn l b fun x r=>
   if (x.2 == NameKind.free)=true then do let a ← cellOf env x.1;pure (ForInStep.yield ((x.1,a)::r))else pure (ForInStep.yield r):Sem _)=pure (Zq env l b)by
  have:=this scope.names [] h
  simp only at this⊢
  rw[this]
  rfl
 intro l
 induction l with
 |nil=>intro b _;rfl
 |cons p r ih=>
  intro b g
  obtain⟨n,k⟩:=p
  rw[List.forIn_cons]
  by_cases d:k=.free
  .subst d
   obtain⟨c,j⟩:=g n kY
   have e:cellOf env n=pure c:=by unfold cellOf;rw[j]
   have f:(NameKind.free == NameKind.free)=true:=rfl
   simp only[f,if_true,e,Zq,j,kJc]
   exact ih _ fun m i=>g m (zY _ i)
  .have f:(k == NameKind.free)=false:=by simpa using d
   simp only[f,yZ,if_false,Zq,Y20 d]
   exact ih _ fun m i=>g m (zY _ i)
theorem Je{sc:Scope}:∀{l:List (Str×NameKind)},freeOk sc l=true->∀n,(n,NameKind.free)∈l->sc.names.lookup n=some .cell\/sc.names.lookup n=some .free
 |[],_,n,h=>nomatch h
 |(m,k)::r,h,n,b=>by
  simp only[freeOk,xV]at h
  rcases zK.mp b with e | e
  .cases e
   have a:=h.1
   have c:(NameKind.free != NameKind.free)=false:=rfl
   rw[c]at a
   simp only[Bool.false_or,jZe,beq_iff_eq]at a
   exact a
  .exact Je h.2 n e
theorem Yy{env:Env}:∀{names:List (Str×NameKind)} {x:Str} {k:NameKind},(names.map fun(n,k)=>if (k == NameKind.free&&env.scope.kind == .function&&env.kindOf n == some .cell)then(n,NameKind.cell)else(n,k)).lookup x=some k ->
  ∃k0,names.lookup x=some k0/\(k=k0\/(k=.cell/\k0=.free))
 |[],_,_,h=>by simp at h
 |(n,k0)::r,x,k,h=>by
  rw[xZ]at h
  by_cases b:(k0 == NameKind.free&&env.scope.kind == .function&&env.kindOf n == some .cell)=true
  .simp only[b,if_true,jKb]at h
   rw[jKb]
   cases a:x == n with
   |true=>
    rw[a]at h
    exists k0,rfl,.inr ⟨(Y5 h).symm,?_⟩
    simp only[xV,beq_iff_eq]at b
    exact b.1.1
   |false=>rw[a]at h;exact Yy h
  .simp only[b,yZ,if_false,jKb]at h
   rw[jKb]
   cases a:x == n with
   |true=>rw[a]at h;exists k0,rfl,.inl (Y5 h).symm
   |false=>rw[a]at h;exact Yy h
theorem lookup_mem{α:Type}:∀{l:List (Str×α)} {x:Str} {k:α},l.lookup x=some k->(x,k)∈l
 |[],_,_,h=>by simp at h
 |(n,k0)::r,x,k,h=>by
  rw[jKb]at h
  cases a:x == n with
  |true=>
   rw[a]at h
   have c:x=n:=by simpa using a
   have b:k0=k:=Y5 h
   subst c b
   exact kY
  |false=>rw[a]at h;exact zY _ (lookup_mem h)
def Qbw(cp:List (Option Nat))(σ:St):St:=cp.map fun(o:Option Nat)=>match o with
 |none=>none
 |some j=>match σ[(j:Nat)]? with
  |some v=>v
  |none=>none
def Vy(X:Cx)(scope:Scope):List Str->List (Option Nat)->Bool
 |[],[]=>true
 |x::N,o::cp=>(match o with | none=>true | some j=>X.N[j]? == some x&&scope.names.lookup x == some .free)&&Vy X scope N cp
 |_,_=>false
theorem Qgq{X:Cx}{scope:Scope}:∀{N:List Str} {cp:List (Option Nat)},Vy X scope N cp=true->cp.length=N.length
 |[],[],_=>rfl
 |_::N,_::cp,h=>by
  simp only[Vy,xV]at h
  simp[Qgq h.2]
 |[],_::_,h=>by simp[Vy]at h
 |_::_,[],h=>by simp[Vy]at h
theorem Qgr{X:Cx}{scope:Scope}:∀{N:List Str} {cp:List (Option Nat)} {i:Nat} {x:Str} {v:V} {σ:St},Vy X scope N cp=true->N[i]?=some x->(Qbw cp σ)[i]?=some (some v) ->
  ∃j:Nat,X.N[j]?=some x/\σ[j]?=some (some v)/\scope.names.lookup x=some .free
 |[],[],i,x,v,σ,_,h,_=>by simp at h
 |y::N,o::cp,0,x,v,σ,h,e,e2=>by
  simp only[Vy,xV]at h
  have b:y=x:=by simpa using e
  subst b
  cases o with
  |none=>simp[Qbw]at e2
  |some j=>
   have a:=h.1
   simp only[xV,beq_iff_eq]at a
   exists j,a.1,?_,a.2
   simp only[Qbw,xZ,List.getElem?_cons_zero,Option.some.injEq]at e2
   cases q:σ[j]? with
   |none=>rw[q]at e2;cases e2
   |some z=>rw[q]at e2;exact congrArg some e2
 |y::N,o::cp,i+1,x,v,σ,h,e,e2=>by
  simp only[Vy,xV]at h
  exact Qgr (i:=i) h.2 (by simpa using e) (by simpa[Qbw]using e2)
 |[],_::_,_,_,_,_,h,_,_=>by simp[Vy]at h
 |_::_,[],_,_,_,_,h,_,_=>by simp[Vy]at h
def Yd(X:Cx)(N:List Str)(scope:Scope)(fp:List Addr)(H:Hp)(s:Shared):Cx :=
 { X with N:=N,s₀:=s,H₀:=H,env:=compEnvC scope (Zq X.env scope.names []) (qa s) X.env,outer:=X.stack,stack:=X.stack,ex:=fp,fn:=fun _=>false,pn:=[],xe:=fun _ _=>False }
theorem Qdn{l:List (Str×NameKind)}(h:(l.all fun p=>p.2 != .cell)=true):∀y∈l,y.2≠.cell:=fun y a=>by
 have:=jJd.mp h y a
 simpa using this
theorem Qlw(I:qI H s)(m:∀b∈fp,FpOk X pins H b)(q:∀b∈fp,b<(qa s))(A:scope.kind=.function)
  (a:(scope.names.all fun p=>p.2 != .cell)=true) (f:freeOk X.env.scope scope.names=true):(Yd X N scope fp H s).Ok:=by
 have l:∀n,(n,NameKind.free)∈scope.names->∃c,X.env.cells.lookup n=some c:=fun n t=>I.ok.has n (Je f n t)
 have d:∀x c,(Zq X.env scope.names []).lookup x=some c->X.env.cells.lookup x=some c:=Vq _ _ l fun x c e=>by simp at e
 have fs:∀b∈fp,b∉frs X.stack:=fun b g z=>by
  obtain⟨_,r,u,_⟩:=m b g
  rcases zK.mp (I.stkSub b z)with e | e
  .exact r e
  .exact u e
 refine⟨I.ok.mod,A,I.ok.glob,I.ok.blt,jZ _,fun x y c v D=>I.ok.inj x y c (d x c v) (d y c D),fun x w=>?_,(fun x c h=>nomatch h),I.ok.hd,I.ok.frames,.inl rfl,fun b g=>⟨zV (q b g),fun x c e=>(m b g).2.2.2.2.1 x c (d x c e)⟩,
  I.bs,jZa I.ok.bsz I.sz,fun b o e g=>?_,fs,I.stack,I.stkFree⟩
 ·have j:(scope.names.map fun (n,k)=>if (k == NameKind.free && X.env.scope.kind == .function && X.env.kindOf n == some .cell) then (n,NameKind.cell) else (n,k)).lookup x=some .cell \/
    (scope.names.map fun(n,k)=>if (k == NameKind.free&&X.env.scope.kind == .function&&X.env.kindOf n == some .cell)then(n,NameKind.cell)else(n,k)).lookup x=some .free:=w
  have E:(x,NameKind.free)∈scope.names:=by
   rcases j with e | e
   .obtain⟨B,i,z | z⟩:=Yy e
    .subst z
     exact Y21 rfl (Qdn a _ (lookup_mem i))
    .obtain⟨_,z⟩:=z
     subst z
     exact lookup_mem i
   .obtain⟨B,i,z | z⟩:=Yy e
    .subst z
     exact lookup_mem i
    .exact nomatch z.1
  exact kQe.mp (Vr _ _ x (.inr E))
 .obtain⟨_,_,_,C,_⟩:=m b g
  rcases C with z | z
  .exact I.ok.noex b o e z
  .exact Y21 (xJ (yK (I.ok.bs b o e).1) z) (kQd _)
theorem Qnt{m:Z9}(I:qI H s)(T:∀b∈fp,FpOk X pins H b)(G:∀b∈fp,b<(qa s))(U:scope.kind=.function)
  (g:(scope.names.all fun p=>p.2 != .cell)=true) (a:freeOk X.env.scope scope.names=true) (f:Vy X scope N cp=true)
  (E:h'.Ns (qa s) m) (w:∀b o,s.heap.get? b=some o->h'.get? b=some o):Inv (Yd X N scope fp H s) [] (Qbw cp σ) H { s with heap:=h',toks:=t' }:=by
 have D:∀n,(n,NameKind.free)∈scope.names->∃c,X.env.cells.lookup n=some c:=fun n M=>I.ok.has n (Je a n M)
 have q:∀x c,(Zq X.env scope.names []).lookup x=some c->X.env.cells.lookup x=some c:=Vq _ _ D fun x c e=>by simp at e
 exists Qlw I T G U g a,rfl,I.bare,⟨fun b o e n _ _=>w b o e,fun b o e n _ _=>⟨o.slots,w b o e⟩,fun b o e n _=>n,fun b o e _=>⟨o,w b o e⟩,fun b xs e=>e,fun b o xs e=>e,fun b ps e=>⟨#[],by rw[Array.append_empty];exact e⟩⟩,⟨m,E,fun i x v S V W=>?_⟩,fun x c e=>?_,I.hok.fresh (jZ _),fun x c e=>I.freeC x c (q x c e),(fun p Y=>nomatch Y),I.hok.kept w,?_
 .obtain⟨j,R,Z,C⟩:=Qgr f S V
  obtain⟨m',_,Q⟩:=I.loc
  have A:=Je a x (lookup_mem C)
  obtain⟨u,r,l⟩:=Q j x v R Z (.inr A)
  rcases l with⟨l,_⟩ | ⟨_,c,P,d⟩
  .rcases A with z | z
   .exact nomatch (Y5 (l.symm.trans z))
   .exact nomatch (Y5 (l.symm.trans z))
  .obtain⟨O,B⟩:=kQe.mp (Vr (env:=X.env) scope.names [] x (.inr (lookup_mem C)))
   have K:=q x O B
   rw[P]at K
   cases K
   exists u,r,.inr ⟨?_,c,B,?_⟩
   .rcases W with z | z | z
    .obtain⟨k0,L,y | y⟩:=Yy (show(scope.names.map fun(n,k)=>if (k == NameKind.free&&X.env.scope.kind == .function&&X.env.kindOf n == some .cell)then(n,NameKind.cell)else(n,k)).lookup x=some .local from z)
     .rw[C]at L;cases L;cases y
     .exact nomatch y.1
    .exact .inl z
    .exact .inr z
   .obtain⟨o,J,F⟩:=d
    exists o,w c o J,F
 .obtain⟨v,o,J,F⟩:=I.cell x c (q x c e)
  exists v,o,w c o J,F
 .show(Qbw cp σ).length=N.length
  unfold Qbw
  rw[jQ]
  exact Qgq f
theorem Qim{σ':St}{s':Shared}{pins':Z8}(I:qI H s)(c:∀b∈fp,FpOk X pins H b)
  (J:Inv (Yd X N scope fp H s) pins' σ' H' s'):qI H' s' :=
 I.call' (ch:=fp) J.os J.base J.hok J.bare fun b a=>⟨(c b a).2.2.2.1,(c b a).2.1,(c b a).2.2.2.2.1,(c b a).2.2.2.2.2⟩
def PF(X:Cx)(ifs:List Expr)(t:TT):Prop :=
 ∀(pins:Z8) (s:Shared) (σ:St) (H:Hp) (Q:Bool->Hp->Prop),qI H s->t σ H Q ->
  qd X X.A (forIn ifs true fun c r=>if r=true then do let ok ← isTrue c X.env (eval c X.env);pure (ForInStep.yield ok)else pure (ForInStep.yield r)) (TP X pins σ Q) X.xe s
def tYes:TT:=fun _ H Q=>Q true H
theorem Yf:PF X [] tYes:=fun _ _ _ H _ I h=>wpAny_tests_nil ⟨H,I,h⟩
theorem Qnu{c:Expr}{t:TT}(b:PT X c t):PF X [c] t:=fun a s d H Q I h=>wpAny_tests_one (b a s d H Q I h)
def LcW(J:It)(D:Addr)(τ0:St)(H:Hp)(g:TG)(tt:TT)(te:TE)(Q:Addr->Hp->Prop):Prop:=∃W:Nat->Nat->St->List V->Hp->Prop,(∃m,W 0 m τ0 [] (upd H D (.lst [])))/\∀i m τ ys H,W i m τ ys H ->
 H D=some (.lst ys)/\((J.stop i H/\Q D H)\/(J.go i H/\ys.length<sizeLine/\∃(N1:St->V->Hp->Prop) (N2:St->Hp->Prop),(∀τ v H,N1 τ v H->∃m',m'<m/\W (i+1) m' τ (ys++[v]) (upd H D (.lst (ys++[v]))))/\(∀τ H,N2 τ H->∃m',m'<m/\W (i+1) m' τ ys H) /\
  ∀x H',J.yld i H x H'->g x τ H' fun σ2 H2=>tt σ2 H2 fun ok H3=>if ok=true then te σ2 H3 fun v H4=>H4 D=some (.lst ys)/\N1 σ2 v H4 else N2 σ2 H3))
def tLC(cp:List (Option Nat))(wi:TI)(g:TG)(tt:TT)(te:TE)(σ:St)(H:Hp)(Q:Addr->Hp->Prop):Prop:=wi σ H fun J H1=>∀D,H1 D=none->LcW J D (Qbw cp σ) H1 g tt te Q
theorem Qjy{target:Expr}{g:TG}{Q:Addr->Hp->Prop}
    {tn:Nat->Heap->Prop}  {RR:Value->Addr->Result->Shared->Prop} (hc:X.calm=true) (hk:scope.kind=.function) (z:(scope.names.all fun p=>p.2 != .cell)=true) (P:freeOk X.env.scope scope.names=true) (Y:Vy X scope N cp=true)
  (hg:∀fp H s,PG (Yd X N scope fp H s) target g) (ht:∀fp H s,PF (Yd X N scope fp H s) ifs tt) (he:∀fp H s,PE (Yd X N scope fp H s) elt te)
  (I:qI H s) (T:Turn X.prog X.w X.K target J fp it tn) (st:tn 0 s.heap) (hf:∀b∈fp,FpOk X pins H b)
  (h:∀D,H D=none->LcW J D (Qbw cp σ) H g tt te Q)
  (ak:∀D C s' H' m,qI H' s'->FpOk X pins H' C->s'.heap.Ns C m->Q D H'->RR (.ref D) C (.ok .next) s') :
  qd X X.A (newList []) (fun acc s3=>qd X X.A (newFunctionEnv scope X.env.globals (Zq X.env scope.names []) [] X.env.qual none .none (some X.env)) (fun cenv s4=>
   codeAny (model X.prog X.w) X.A (.compStart (.ListComp elt [⟨target,iter,ifs,0⟩] scope pos) 0 (.ref it) acc { cenv with scope:=relabel scope X.env }) (RR acc cenv.locals) s4) E s3) E s:=by
 have ab:∀b∈fp,b<(qa s):=fun b c=>by
  obtain⟨o,e,_⟩:=T.obj _ _ st b c
  exact yK e
 refine Y26 (wpAny_newFunctionEnv (Qdn z) (by intro y hy;simp at hy) (fun U k l=>?_) hk)
 dsimp only at k l⊢
 have hD:H (qa s)=none:=I.hok.fresh (jZ _)
 have I3:qI (upd H (qa s) (.lst [])) { s with heap:=s.heap.push { cls:=.type "list",dict:=none,data:=.seq ([]:List Value).toArray } } :=
  I.laid (t':=s.toks) (fun b u e=>jV _ e) (jZ _) ⟨jQf _,[],0,.nil,yJ _ rfl⟩
 have S:∀b∈fp,FpOk X pins (upd H (qa s) (.lst [])) b:=fun b c=>⟨by rw[Qn (zV (ab b c))];exact(hf b c).1,(hf b c).2⟩
 have M:∀b∈fp,b<(s.heap.push { cls:=.type "list",dict:=none,data:=.seq ([]:List Value).toArray }).objs.size:=fun b c=>by rw[jZc];exact kQb (ab b c)
 generalize an:s.heap.push { cls:=.type "list",dict:=none,data:=.seq ([]:List Value).toArray }=H2 at k l I3 M⊢
 generalize ac:({ s with heap:=H2 }:Shared)=s3 at I3
 have f:s3.heap=H2:=by rw[<-ac]
 have L:∀b o,s3.heap.get? b=some o->U.get? b=some o:=fun b o e=>by
  rw[f]at e
  exact l.extBut b o (zV (yK e)) (jV _ e)
 have J0:Inv (Yd X N scope fp (upd H (qa s) (.lst [])) s3) [] (Qbw cp σ) (upd H (qa s) (.lst [])) { s3 with heap:=U,toks:=s.toks+([]:List (Str×Value)).length } :=
  Qnt I3 S (by rw[f];exact M) hk z P Y (by rw[f];exact k) L
 have ad:tn 0 U:=T.keep _ _ _ st fun b c o e=>L b o (by rw[f,<-an];exact jV _ e)
 obtain⟨W,⟨m0,w0⟩,aa⟩:=h (qa s) hD
 have q:∀{H':Hp},(∀b∈fp,H' b=none)->∀b∈fp,FpOk (Yd X N scope fp (upd H (qa s) (.lst [])) s3) [] H' b:=fun{H'} hn b c=>
  ⟨hn b c,(J0.ok.exf b c).1,J0.ok.exfs b c,.inl c,(J0.ok.exf b c).2,fun p hp=>nomatch hp⟩
 have G:codeAny (model X.prog X.w) X.A (.compLoop (.ListComp elt [⟨target,iter,ifs,0⟩] scope pos) 0 (.ref it) (.ref (qa s)) (compEnvC scope (Zq X.env scope.names []) H2.objs.size X.env))
   (RR (.ref (qa s)) H2.objs.size) { s3 with heap:=U,toks:=s.toks+([]:List (Str×Value)).length }:=by
  have F:compEnvC scope (Zq X.env scope.names []) H2.objs.size X.env=(Yd X N scope fp (upd H (qa s) (.lst [])) s3).env:=by
   rw[<-f];rfl
  rw[F]
  refine Qgp (fun n s'=>∃i R V H',Inv (Yd X N scope fp (upd H (qa s) (.lst [])) s3) [] R H' s'/\tn i s'.heap/\(∀b∈fp,H' b=none)/\W i n R V H') ?_ m0 ⟨0,Qbw cp σ,[],_,J0,ad,fun b c=>(S b c).1,w0⟩
  rintro n s4 ⟨i,R,V,H4,I4,Z,af,w4⟩
  obtain⟨aq,hh⟩:=aa i n R V H4 w4
  rcases hh with⟨ag,qn⟩ | ⟨go,ae,N1,N2,ai,ah,step⟩
  .refine thn (T.done (Yd X N scope fp (upd H (qa s) (.lst [])) s3) rfl rfl rfl hc i [] s4 R H4 _ I4 (q af) Z ag) fun r s5 a=>?_
   obtain⟨hr,I5⟩:=a
   subst hr
   obtain⟨m,hm,_⟩:=I5.loc
   have e5:H2.objs.size=(Yd X N scope fp (upd H (qa s) (.lst [])) s3).env.locals:=by rw[<-F];rfl
   refine ak _ _ s5 H4 m (Qim I3 S I5) ?_ (by rw[e5];exact hm) qn
   exact I3.fpOk (by rw[f];exact jZ _) (by rw[e5];exact I5.free)
  .refine thn (T.item (Yd X N scope fp (upd H (qa s) (.lst [])) s3) rfl rfl rfl hc i [] s4 R H4 _ I4 (q af) Z go) fun r s5 a=>?_
   obtain⟨u,hr,h5⟩:=a
   subst hr
   refine thn h5 fun _ s6 a=>?_
   obtain⟨x,H6,I6,r6,y6,O,ao⟩:=a
   have ap:=I6.pinned (q ao) (T.obj _ _ O)
   refine thn (hg fp _ _ _ s6 R H6 x u _ ap r6 (step x H6 y6)) fun _ s7 a=>?_
   obtain⟨j,H7,I7,q7⟩:=a
   refine thn (ht fp _ _ _ s7 j H7 _ I7 q7) fun ok s8 a=>?_
   obtain⟨H8,I8,q8⟩:=a
   have B:∀{σ':St} {H':Hp} {s':Shared},Inv (Yd X N scope fp (upd H (qa s) (.lst [])) s3) ([]++Qge fp s6.heap) σ' H' s'->Inv (Yd X N scope fp (upd H (qa s) (.lst [])) s3) [] σ' H' s'/\tn (i+1) s'.heap/\∀b∈fp,H' b=none:=fun{σ' H' s'} I'=>by
    exists I'.unpinned,T.keep _ _ _ O fun b c o e=>(I'.pin (b,o) (wY _ (wY _ (Kz c e)))).1,fun b c=>?_
    obtain⟨o,e,d⟩:=T.obj _ _ O b c
    exact(I'.pin (b,o) (wY _ (wY _ (Kz c e)))).2.1
   cases ok with
   |false=>
    rw[Y20 yX]at q8⊢
    obtain⟨m',hm,w8⟩:=ah _ _ q8
    obtain⟨b1,b2,b3⟩:=B I8
    exists m',hm,i+1,j,V,H8,b1,b2,b3,w8
   |true=>
    rw[Y22 rfl]at q8⊢
    refine thn (he fp _ _ _ s8 j H8 _ I8 q8) fun y s9 a=>?_
    obtain⟨v,H9,I9,r9,aj,n9⟩:=a
    obtain⟨m',hm,w9⟩:=ai _ _ _ n9
    refine thn (Ye _ s9 j H9 (.ref (qa s)) [v] (.ref (qa s)) [y] (fun _ H'=>H'=upd H9 (qa s) (.lst (V++[v]))) I9 rfl (.cons r9 .nil) ⟨_,V,v,rfl,rfl,aj,ae,rfl⟩) fun _ au a=>?_
    obtain⟨_,ar,am,_,al⟩:=a
    subst al
    obtain⟨b1,b2,b3⟩:=B am
    exists m',hm,i+1,j,_,_,b1,b2,b3,w9
 have e3:({ s with heap:=U,toks:=s.toks+([]:List (Str×Value)).length }:Shared)={ s3 with heap:=U,toks:=s.toks+([]:List (Str×Value)).length }:=by rw[<-ac]
 rw[e3]
 exact codeAny_compStart_list G (T.self _ 0 _ _ _ ad G)
theorem Zv{target:Expr}(N:List Str)(cp:List (Option Nat)){wi:TI}{g:TG}(G:X.calm=true)(E:PI X target iter wi)
  (S:∀fp H s,PG (Yd X N scope fp H s) target g) (B:∀fp H s,PF (Yd X N scope fp H s) ifs tt) (he:∀fp H s,PE (Yd X N scope fp H s) elt te)
  (v:qb (scope.kind=.function)) (f:qb ((scope.names.all fun p=>p.2 != .cell)=true)) (a:qb (freeOk X.env.scope scope.names=true)) (j:qb (Vy X scope N cp=true))
  (d:qb ((scope.names.all fun p=>p.2 != .local||scope.names.lookup p.1 == some .local)=true)) (M:autoParam (∀x,foldedSetIterable iter X.env x=pure x) J4._auto_1) :
  PE X (.ListComp elt [⟨target,iter,ifs,0⟩] scope pos) (fun σ H Q=>tLC cp wi g tt te σ H fun D H'=>Q (.ref D) H'):=by
 intro k s σ H Q I h
 rw[eval_ListComp]
 have l:∀n,(n,NameKind.free)∈scope.names->∃c,X.env.cells.lookup n=some c:=fun n w=>I.ok.has n (Je a n w)
 refine wpAny_comprehension_free (use:=none) rfl M (Kh l) v (fun x P K=>?_) (thn (E k s σ H _ I h) fun xv s1 O=>thn O fun V s2 U=>?_)
 .have:=jJd.mp d x P
  simp only[jZe,bne_iff_ne,beq_iff_eq]at this
  exact this.resolve_left fun z=>z K
 .obtain⟨Z,fp,tn,J,H2,e,W,T,r,F,L⟩:=U
  subst e
  refine Qjy (N:=N) (cp:=cp) G v f a j S B he W T r F L fun D C R H' m A i Y q=>⟨m,Y,fun h' u=>?_⟩
  exists .ref D,H',A.turned (t':=R.toks) (fun b o y e=>u.extBut b o y e) i.1 i.2.1 i.2.2.2.1 i.2.2.2.2.1 i.2.2.2.2.2,rfl,q
theorem Qei{px:Pos}{target:Expr}{spos:Pos}(N:List Str)(cp:List (Option Nat)){wi:TI}{g:TG}(hc:X.calm=true)(hN:X.N.Nodup)(K:X.N[i]?=some x)(L:Loc X.env.scope x)(W:PI X target iter wi)
  (hg:∀fp H s,PG (Yd X N scope fp H s) target g) (V:∀fp H s,PF (Yd X N scope fp H s) ifs tt) (he:∀fp H s,PE (Yd X N scope fp H s) elt te)
  (F:qb (swapsWith (.ListComp elt [⟨target,iter,ifs,0⟩] scope pos) (some (.Name x px)) spos.line X.env=pure true))
  (O:qb (scope.kind=.function)) (l:qb ((scope.names.all fun p=>p.2 != .cell)=true)) (d:qb (freeOk X.env.scope scope.names=true)) (u:qb (Vy X scope N cp=true))
  (f:qb ((scope.names.all fun p=>p.2 != .local||scope.names.lookup p.1 == some .local)=true)) (hs:autoParam (∀x,foldedSetIterable iter X.env x=pure x) J4._auto_1)
  (hf:autoParam (X.fn x=true\/qh X x=some .local) J3._auto_1) :
  PS X (.Assign [.Name x px] (.ListComp elt [⟨target,iter,ifs,0⟩] scope pos) spos) (fun D σ H=>tLC cp wi g tt te σ H fun a H'=>D.nx (σ.set i (some (.ref a))) H'):=by
 intro j s σ H D I h
 have y:∀n,(n,NameKind.free)∈scope.names->∃c,X.env.cells.lookup n=some c:=fun n R=>I.ok.has n (Je d n R)
 rw[exec_Assign_Name_used _ _ _ _ F]
 refine jX (wpAny_standAt (jX ?_))
 show wpAny _ _ (do let _ ← comprehension (.ListComp elt [⟨target,iter,ifs,0⟩] scope pos) scope X.env _ (newList []) false (eval iter X.env) (some (assign (.Name x px) X.env))) _ _ s
 refine jX (Y29 (wpAny_comprehension_free (use:=some (assign (.Name x px) X.env)) (Q:=fun _ M=>SP X j D .next M) rfl hs (Kh y) O (fun x L hl=>?_)
  (thn (W j s σ H _ I h) fun xv s1 h1=>thn h1 fun aa s2 h2=>?_)) (fun _ M Z=>jK (jK Z)) fun _ _ e=>e)
 .have:=jJd.mp f x L
  simp only[jZe,bne_iff_ne,beq_iff_eq]at this
  exact this.resolve_left fun z=>z hl
 .obtain⟨it,fp,tn,J,H2,e,I2,T,G,Y,hW⟩:=h2
  subst e
  refine Qjy (N:=N) (cp:=cp) hc O l d u hg V he I2 T G Y hW fun P C M H' m U k hm q=>?_
  show wpAny _ _ (assign (.Name x px) X.env (.ref P)) _ _ _
  refine wpAny_assign_Name (Qgd U hN K L (v:=.ref P) rfl (fun A E r=>?_) hf)
  obtain⟨a,r,ha⟩:=r
  have B:C≠a:=by
   rcases ha with e | e
   .rw[e];exact k.2.1
   .exact fun z=>k.2.2.2.2.1 x a e z.symm
  exists m,hm.sameBut r B,fun h' w=>?_
  exists _,H',E.turned (t':=A.toks) (fun b o S e=>w.extBut b o S e) k.1 k.2.1 k.2.2.2.1 k.2.2.2.2.1 k.2.2.2.2.2,q
structure Drw(P:Program)(w:World)(it l:Addr)(st:Nat->Heap->Prop)(src:List Value->Heap->Prop):Prop where
 obj:∀i h,st i h->∃o,h.get? it=some o/\∀v,o.data≠.cell v
 keep:∀i h h',st i h->(∀o,h.get? it=some o->h'.get? it=some o)->st i h'
 srck:∀xs h h',src xs h->(∀o,h.get? l=some o->h'.get? l=some o)->src xs h'
 item:∀(A:Around) (E:VP) (s:Shared) (i:Nat) (xs:List Value) (x:Value) (Q:VP),st i s.heap->src xs s.heap->xs[i]?=some x ->
  (∀h',st (i+1) h'->Heap.SameBut it s.heap h'->Q x { s with heap:=h' })->qe P w A (Builtin.SmallTypes.nextOf (.ref it)) Q E s
 done:∀(A:Around) (E:VP) (s:Shared) (i:Nat) (xs:List Value) (Q:VP),A.handled=none->st i s.heap->src xs s.heap->xs[i]?=none ->
  (∀h' e,Heap.ExtBut it s.heap h'->(∃o,h'.get? e=some o/\o.cls=.type "StopIteration")->E (.ref e) { s with heap:=h' })->qe P w A (Builtin.SmallTypes.nextOf (.ref it)) Q E s
theorem Qsk(f l:Addr):Drw P w f l (fun i h=>h.IsListIter f l i) (fun xs h=>h.IsList l xs.toArray) where
 obj:=fun i h st=>by
  obtain⟨o,e,c,d⟩:=st
  exists o,e,fun v z=>by rw[d]at z;cases z
 keep:=fun i h n st k=>st.at k
 srck:=fun xs h n a k=>a.at k
 item:=fun A E s i xs x Q st a b g=>wpAny_nextOf_list_item st a (by simpa using b) g
 done:=fun A E s i xs Q m st a b j=>wpAny_nextOf_list_end m st a (by simpa using b) j
theorem Qbx{t:Addr}{xs:Array Value}{x:Value}{Q:VP}(c:s.heap.IsTupleIter it t i)(f:s.heap.IsTuple t xs)(k:xs[i]?=some x)
  (e:∀h',h'.IsTupleIter it t (i+1)->Heap.SameBut it s.heap h'->Q x { s with heap:=h' }):qe P w A (Builtin.SmallTypes.nextOf (.ref it)) Q E s:=by
 obtain⟨l,b,d,a⟩:=id c
 obtain⟨m,g,_,n,j⟩:=f
 unfold Builtin.SmallTypes.nextOf
 refine jX (wpAny_callSpecial?_slot (name:=Str.ofString "__next__") c.typeIs F.slot_tuple_iterator_next (Y25 F.slot_tuple_iterator_next c.typeIs F.entry_tuple_iterator_next ?_ (F.args_tuple_iterator_next_1 _)))
 show wpAny _ _ (field (.ref it) 0 >>= _) _ _ s
 refine jX (Y23 b a (x:=.ref t) rfl ?_)
 show wpAny _ _ (if (Value.ref t == Value.none)=true then _ else _) _ _ s
 rw[Y20 (show ¬((Value.ref t == Value.none)=true)from yX)]
 show wpAny _ _ (field (.ref it) 1 >>= _) _ _ s
 refine jX (Y23 b a (x:=.int i 0) rfl ?_)
 show wpAny _ _ (seqItems? (.ref t) >>= _) _ _ s
 refine jX (wpAny_seqItems g j ?_)
 simp only[yV,k]
 refine jX (wpAny_setField b a (by simp) (jK ⟨x,rfl,jK (e _ ?_ (Heap.SameBut.update ..))⟩))
 exists _,jJa _ b (Obj.isFreed_of_fields (Obj.data_mapFields a _)),(Obj.cls_mapFields ..).trans d,?_
 rw[Obj.data_mapFields a];simp[rawInt]
theorem Qdh{t:Addr}{xs:Array Value}{Q:VP}(f:A.handled=none)(b:s.heap.IsTupleIter it t i)(j:s.heap.IsTuple t xs)(n:xs[i]?=none)
  (g:∀h' e,Heap.ExtBut it s.heap h'->(∃o,h'.get? e=some o/\o.cls=.type "StopIteration")->E (.ref e) { s with heap:=h' }):qe P w A (Builtin.SmallTypes.nextOf (.ref it)) Q E s:=by
 obtain⟨q,c,p,d⟩:=id b
 obtain⟨r,k,_,u,l⟩:=j
 unfold Builtin.SmallTypes.nextOf
 refine jX (wpAny_callSpecial?_slot (name:=Str.ofString "__next__") b.typeIs F.slot_tuple_iterator_next (Y25 F.slot_tuple_iterator_next b.typeIs F.entry_tuple_iterator_next ?_ (F.args_tuple_iterator_next_1 _)))
 show wpAny _ _ (field (.ref it) 0 >>= _) _ _ s
 refine jX (Y23 c d (x:=.ref t) rfl ?_)
 show wpAny _ _ (if (Value.ref t == Value.none)=true then _ else _) _ _ s
 rw[Y20 (show ¬((Value.ref t == Value.none)=true)from yX)]
 show wpAny _ _ (field (.ref it) 1 >>= _) _ _ s
 refine jX (Y23 c d (x:=.int i 0) rfl ?_)
 show wpAny _ _ (seqItems? (.ref t) >>= _) _ _ s
 refine jX (wpAny_seqItems k l ?_)
 simp only[yV,n]
 refine jX (wpAny_rule (jX (wpAny_setField c d (by simp) ?_)))
 show wpAny _ _ (newExc (.type "StopIteration") [] >>= _) _ _ _
 refine jX ?_
 simp only[newExc,newTuple]
 refine jX (Y26 ?_ (by size_fits))
 refine jX (m:=firstArgMember _ _) (wpAny_of_eq (a:=Value.none) (by first | rfl | (simp only[firstArgMember];rfl)) ?_)
 refine Y26 ?_ (by size_fits)
 simp only[raiseNew]
 refine jX (wpAny_handled ?_)
 first | rw[show A.in1.handled=none from f] | rw[f]
 exact jX (jK (wpAny_throw (g _ _ (((Heap.SameBut.update ..).extBut.push _).push _) ⟨_,yJ _ rfl,rfl⟩)))
theorem Qwo(f l:Addr):Drw P w f l (fun i h=>h.IsTupleIter f l i) (fun xs h=>h.IsTuple l xs.toArray) where
 obj:=fun i h st=>by
  obtain⟨o,e,c,d⟩:=st
  exists o,e,fun v z=>by rw[d]at z;cases z
 keep:=fun i h n st k=>st.at k
 srck:=fun xs h n a k=>a.at k
 item:=fun A E s i xs x Q st a b g=>Qbx st a (by simpa using b) g
 done:=fun A E s i xs Q m st a b j=>Qdh m st a (by simpa using b) j
section
variable{z u o i1 i2 l1 l2:Addr}{st1 st2:Nat->Heap->Prop}{src1 src2:List Value->Heap->Prop}{k1 k2:Nat}{xs ys:List Value}{a b:Value}
theorem Qgs{x y:Value}{Q:Option Value->Shared->Prop}(G:Drw P w i1 l1 st1 src1)(J:Drw P w i2 l2 st2 src2)(D:ZipApart z u o i1 i2 l1 l2)(n:IsZip s.heap z u o .none)(hU:IsPair s.heap u (.ref i1) (.ref i2))(hO:IsPair s.heap o a b)
  (h1:st1 k1 s.heap) (h2:st2 k2 s.heap) (U:src1 xs s.heap) (W:src2 ys s.heap) (hx:xs[k1]?=some x) (hy:ys[k2]?=some y)
  (hQ:∀h',IsZip h' z u o (rawInt (qa s))->IsPair h' o x y->st1 (k1+1) h'->st2 (k2+1) h'->IsPair h' (qa s) x y->h'.objs.size=(qa s)+1 ->
   (∀c q,c≠z->c≠o->c≠i1->c≠i2->s.heap.get? c=some q->h'.get? c=some q)->Q (some (.ref (qa s))) { s with heap:=h' }):qe P w A (pyNext (.ref z)) Q E s:=by
 have N:s.TypeIs (.ref z) "zip":=⟨_,n,rfl⟩
 unfold pyNext
 refine jX (wpAny_attempt (wpAny_callSpecial?_slot (name:=Str.ofString "__next__") N F.slot_zip_next (Y25 F.slot_zip_next N F.entry_zip_next ?_ (F.args_zip_next_1 _))))
 show wpAny _ _ (field (.ref z) 2 >>= _) _ _ _
 refine jX (Y23 n rfl (x:=.bool false) rfl ?_)
 show wpAny _ _ (field (.ref z) 3 >>= _) _ _ _
 refine jX (Y23 n rfl (x:=.ref u) rfl (jX (wpAny_seqItems hU rfl ?_)))
 show wpAny _ _ (Builtin.SmallTypes.ownedTupleIsFree (.ref z) >>= _) _ _ _
 refine jX ?_
 unfold Builtin.SmallTypes.ownedTupleIsFree
 refine jX (Y23 n rfl (x:=.none) rfl (jK ?_))
 simp only[if_true]
 refine jX (wpAny_rule (jX (Y23 n rfl (x:=.ref o) rfl (jX (Y24 n (by simp) fun g1 i l=>?_)))))
 replace i:IsZip g1 z u o .ellipsis:=i
 refine jX ?_
 simp only[List.zipIdx_cons,List.zipIdx_nil,List.forIn_cons,List.forIn_nil]
 refine jX (jX (wpAny_onRaise ?_))
 show wpAny _ _ (Builtin.SmallTypes.nextOf (.ref i1) >>= _) _ _ _
 refine jX (G.item _ _ { s with heap:=g1 } k1 xs x _ (G.keep _ _ _ h1 fun q e=>l.extBut _ _ D.i1z e) (G.srck _ _ _ U fun q e=>l.extBut _ _ D.l1z e) hx fun g2 X p=>jK ?_)
 have t:IsPair g2 o a b:=p.extBut _ _ D.TOi1 (l.extBut _ _ D.TOz hO)
 refine jX (wpAny_seqItems t rfl (jX (wpAny_updateSeq_pair t fun g3 k r=>?_)))
 replace k:IsPair g3 o x b:=k
 refine jX (wpAny_letGo (jK ?_))
 refine jX (jX (wpAny_onRaise ?_))
 show wpAny _ _ (Builtin.SmallTypes.nextOf (.ref i2) >>= _) _ _ _
 refine jX (J.item _ _ { s with heap:=g3 } k2 ys y _ (J.keep _ _ _ h2 fun q e=>r.extBut _ _ D.TOi2.symm (p.extBut _ _ D.i12.symm (l.extBut _ _ D.i2z e)))
  (J.srck _ _ _ W fun q e=>r.extBut _ _ D.l2TO (p.extBut _ _ D.l2i1 (l.extBut _ _ D.l2z e))) hy fun g4 ab K=>jK ?_)
 have I:IsPair g4 o x b:=K.extBut _ _ D.TOi2 k
 refine jX (wpAny_seqItems I rfl (jX (wpAny_updateSeq_pair I fun d f M=>?_)))
 replace f:IsPair d o x y:=f
 refine jX (wpAny_letGo (jK (jK ?_)))
 refine jX (wpAny_seqItems f rfl (jX (wpAny_newTuple ?_)))
 have B:d.objs.size=(qa s):=by rw[M.1,K.1,r.1,p.1,l.1]
 have O:IsZip d z u o .ellipsis:=M.extBut _ _ D.TOz.symm (K.extBut _ _ D.i2z.symm (r.extBut _ _ D.TOz.symm (p.extBut _ _ D.i1z.symm i)))
 have ac:∀c q,c≠z->c≠o->c≠i1->c≠i2->s.heap.get? c=some q->d.get? c=some q:=fun c q j S Z c4 e=>
  M.extBut _ _ S (K.extBut _ _ c4 (r.extBut _ _ S (p.extBut _ _ Z (l.extBut _ _ j e))))
 have Y:st1 (k1+1) d:=G.keep _ _ _ X fun q e=>M.extBut _ _ D.TOi1.symm (K.extBut _ _ D.i12 (r.extBut _ _ D.TOi1.symm e))
 have T:st2 (k2+1) d:=J.keep _ _ _ ab fun q e=>M.extBut _ _ D.TOi2.symm e
 have C:z<d.objs.size:=yK O
 show wpAny _ _ (Builtin.SmallTypes.ownedTupleHandOut (.ref z) (.ref d.objs.size) >>= _) _ _ _
 refine jX ?_
 unfold Builtin.SmallTypes.ownedTupleHandOut
 have aa:IsZip (d.push { cls:=.type "tuple",data:=.seq #[x,y] }) z u o .ellipsis:=jV _ O
 refine jX (Y24 aa (by simp) fun g7 m e7=>?_)
 replace m:IsZip g7 z u o (rawInt d.objs.size):=m
 refine Y24 m (by simp) fun v g V=>?_
 replace g:IsZip v z u o (rawInt d.objs.size):=g
 have R:∀c q,c≠z->d.get? c=some q->v.get? c=some q:=fun c q j e=>V.extBut _ _ j (e7.extBut _ _ j (jV _ e))
 have L:IsPair v d.objs.size x y:=V.extBut _ _ (kKc C) (e7.extBut _ _ (kKc C) (yJ _ rfl))
 have H:v.objs.size=d.objs.size+1:=by rw[V.1,e7.1,jZc]
 rw[B]at g L H
 refine jK ⟨_,rfl,jK ?_⟩
 show Q (some (.ref d.objs.size)) _
 rw[B]
 exact hQ v g (R _ _ D.TOz f) (G.keep _ _ _ Y fun q e=>R _ q D.i1z e) (J.keep _ _ _ T fun q e=>R _ q D.i2z e) L H fun c q j S Z c4 e=>R c q j (ac c q j S Z c4 e)
theorem Qin{Q:Option Value->Shared->Prop}(R:A.handled=none)(l:Drw P w i1 l1 st1 src1)(M:Drw P w i2 l2 st2 src2)(D:ZipApart z u o i1 i2 l1 l2)(m:IsZip s.heap z u o .none)(hU:IsPair s.heap u (.ref i1) (.ref i2))(hO:IsPair s.heap o a b)
  (S:st1 k1 s.heap) (h2:st2 k2 s.heap) (r:src1 xs s.heap) (H:src2 ys s.heap) (C:xs[k1]?=none\/ys[k2]?=none)
  (Y:∀h',(∀c q,c≠z->c≠o->c≠i1->c≠i2->s.heap.get? c=some q->h'.get? c=some q)->Q none { s with heap:=h' }):qe P w A (pyNext (.ref z)) Q E s:=by
 have G:s.TypeIs (.ref z) "zip":=⟨_,m,rfl⟩
 unfold pyNext
 have fin:∀(h':Heap) (e:Addr),(∀c q,c≠z->c≠o->c≠i1->c≠i2->s.heap.get? c=some q->h'.get? c=some q)->(∃o,h'.get? e=some o/\o.cls=.type "StopIteration") ->
   qe P w A (isInstance (.ref e) (.type "StopIteration") >>= fun b=>if b=true then pure none else throw (Value.ref e)) Q E { s with heap:=h' }:=fun h' e hk t=>by
  obtain⟨q,Z,hc⟩:=t
  exact jX (wpAny_isInstance (T:="StopIteration") (b:=true) ⟨q,Z,hc⟩ isSubtype_stop (jK (Y _ hk)))
 refine jX (wpAny_attempt (wpAny_callSpecial?_slot (name:=Str.ofString "__next__") G F.slot_zip_next (Y25 F.slot_zip_next G F.entry_zip_next ?_ (F.args_zip_next_1 _))))
 show wpAny _ _ (field (.ref z) 2 >>= _) _ _ _
 refine jX (Y23 m rfl (x:=.bool false) rfl ?_)
 show wpAny _ _ (field (.ref z) 3 >>= _) _ _ _
 refine jX (Y23 m rfl (x:=.ref u) rfl (jX (wpAny_seqItems hU rfl ?_)))
 show wpAny _ _ (Builtin.SmallTypes.ownedTupleIsFree (.ref z) >>= _) _ _ _
 refine jX ?_
 unfold Builtin.SmallTypes.ownedTupleIsFree
 refine jX (Y23 m rfl (x:=.none) rfl (jK ?_))
 simp only[if_true]
 refine jX (wpAny_rule (jX (Y23 m rfl (x:=.ref o) rfl (jX (Y24 m (by simp) fun O d f=>?_)))))
 replace d:IsZip O z u o .ellipsis:=d
 refine jX ?_
 simp only[List.zipIdx_cons,List.zipIdx_nil,List.forIn_cons,List.forIn_nil]
 refine jX (jX (wpAny_onRaise ?_))
 show wpAny _ _ (Builtin.SmallTypes.nextOf (.ref i1) >>= _) _ _ _
 cases J:xs[k1]? with
 |none=>
  refine jX (l.done _ _ { s with heap:=O } k1 xs _ R (l.keep _ _ _ S fun q e=>f.extBut _ _ D.i1z e) (l.srck _ _ _ r fun q e=>f.extBut _ _ D.l1z e) J fun L e g t=>?_)
  obtain⟨K,j,y⟩:=t
  have p:IsZip L z u o .ellipsis:=g _ _ D.i1z.symm d
  have i:e≠z:=fun x=>by subst x;rw[p]at j;cases j;simp at y
  refine Y24 p (by simp) fun N _ k=>?_
  exact fin N e (fun c q B _ I _ x=>k.extBut _ _ B (g _ _ I (f.extBut _ _ B x))) ⟨K,k.extBut _ _ i j,y⟩
 |some x=>
  have hy:ys[k2]?=none:=C.resolve_left fun h=>by rw[J]at h;cases h
  refine jX (l.item _ _ { s with heap:=O } k1 xs x _ (l.keep _ _ _ S fun q e=>f.extBut _ _ D.i1z e) (l.srck _ _ _ r fun q e=>f.extBut _ _ D.l1z e) J fun L X g=>jK ?_)
  have n:IsPair L o a b:=g.extBut _ _ D.TOi1 (f.extBut _ _ D.TOz hO)
  refine jX (wpAny_seqItems n rfl (jX (wpAny_updateSeq_pair n fun N aa k=>?_)))
  refine jX (wpAny_letGo (jK ?_))
  refine jX (jX (wpAny_onRaise ?_))
  show wpAny _ _ (Builtin.SmallTypes.nextOf (.ref i2) >>= _) _ _ _
  refine jX (M.done _ _ { s with heap:=N } k2 ys _ R (M.keep _ _ _ h2 fun q e=>k.extBut _ _ D.TOi2.symm (g.extBut _ _ D.i12.symm (f.extBut _ _ D.i2z e)))
   (M.srck _ _ _ H fun q e=>k.extBut _ _ D.l2TO (g.extBut _ _ D.l2i1 (f.extBut _ _ D.l2z e))) hy fun W e U t=>?_)
  obtain⟨K,j,y⟩:=t
  have v:IsZip W z u o .ellipsis:=U _ _ D.i2z.symm (k.extBut _ _ D.TOz.symm (g.extBut _ _ D.i1z.symm d))
  have i:e≠z:=fun x=>by subst x;rw[v]at j;cases j;simp at y
  refine Y24 v (by simp) fun g5 _ V=>?_
  exact fin g5 e (fun c q B c2 I c4 x=>V.extBut _ _ B (U _ _ c4 (k.extBut _ _ c2 (g.extBut _ _ I (f.extBut _ _ B x))))) ⟨K,V.extBut _ _ i j,y⟩
end
def Vj(n:String)(l:Addr):Obj:={ cls:=.type n,data:=.fields #[.ref l,.int 0 0] }
structure Itr0(n:String)(l:Addr)(pr:Heap->Prop):Prop where
 go:∀(P:Program) (w:World) (A:Around) (E:VP) (s:Shared) (Q:VP),pr s.heap->Q (.ref (qa s)) { s with heap:=s.heap.push (Vj n l) }->qe P w A (pyIter (.ref l)) Q E s
 push:∀h o,pr h->pr (h.push o)
theorem Qnv(l:Addr)(xs:Array Value):Itr0 "list_iterator" l (fun h=>h.IsList l xs):=⟨fun _ _ _ _ _ _ a h=>wpAny_pyIter_list a h,fun _ _ a=>a.push _⟩
theorem Qsl(l:Addr)(xs:Array Value):Itr0 "tuple_iterator" l (fun h=>h.IsTuple l xs):=⟨fun _ _ _ _ _ _ a h=>wpAny_pyIter_tuple a h,fun _ _ a=>a.push _⟩
def zH1(h:Heap)(n1:String)(l1:Addr):Heap:=h.push (Vj n1 l1)
def zH2(h:Heap)(n1 n2:String)(l1 l2:Addr):Heap:=(zH1 h n1 l1).push (Vj n2 l2)
def zH3(h:Heap)(n1 n2:String)(l1 l2:Addr):Heap:=(zH2 h n1 n2 l1 l2).push { cls:=.type "tuple",data:=.seq #[.ref h.objs.size,.ref (zH1 h n1 l1).objs.size] }
def zH4(h:Heap)(n1 n2:String)(l1 l2:Addr):Heap:=(zH3 h n1 n2 l1 l2).push { cls:=.type "tuple",data:=.seq #[.none,.none] }
def zH5(h:Heap)(n1 n2:String)(l1 l2:Addr):Heap:=(zH4 h n1 n2 l1 l2).push { cls:=.type "zip",data:=.fields #[.none,.bool false,.bool false,.ref (zH2 h n1 n2 l1 l2).objs.size,.ref (zH3 h n1 n2 l1 l2).objs.size] }
theorem Qnw{n1 n2:String}{l1 l2:Addr}{p1 p2:Heap->Prop}(m:Itr0 n1 l1 p1)(e:Itr0 n2 l2 p2) :
  Meets (Builtin.«zip.__new__» ⟨[.type "zip",.ref l1,.ref l2],[]⟩) (fun _ R s=>p1 s.heap/\p2 s.heap/\R (.ok (.ret (.ref (zH4 s.heap n1 n2 l1 l2).objs.size))) { s with heap:=zH5 s.heap n1 n2 l1 l2 }) :=
 .of_wp fun a w A R s h=>by
  obtain⟨i,g,d,c,b⟩:=s
  obtain⟨n,k,h⟩:=h
  have f:=sub_zip
  have l:=fun(A:Around) (E:VP) (Q:VP)=>m.go a w A E ⟨i,g,d,c,b⟩ Q n
  have j:=fun(A:Around) (E:VP) (Q:VP)=>e.go a w A E ⟨i.push (Vj n1 l1),g,d,c,b⟩ Q (e.push _ _ k)
  wp_walk using l _ _ _,j _ _ _
  exists 4,h
def Sq(K:Fg)(m:Bool)(H:Hp)(a:Addr)(xs:List V):Prop:=if m=true then SqL K H a xs else SqT K H a xs
def itN(m:Bool):String:=if m=true then "list_iterator" else "tuple_iterator"
def itSt(m:Bool)(it l:Addr)(i:Nat)(h:Heap):Prop:=if m=true then h.IsListIter it l i else h.IsTupleIter it l i
def Qlx(m:Bool)(l:Addr)(xs:List Value)(h:Heap):Prop:=if m=true then h.IsList l xs.toArray else h.IsTuple l xs.toArray
theorem Yz(m:Bool)(a l:Addr):Drw P w a l (itSt m a l) (Qlx m l):=by
 cases m
 .exact Qwo a l
 .exact Qsk a l
theorem Qio(m:Bool)(l:Addr)(xs:List Value):Itr0 (itN m) l (Qlx m l xs):=by
 cases m
 .exact Qsl l xs.toArray
 .exact Qnv l xs.toArray
theorem Qej(m:Bool)(e:h.get? it=some (Vj (itN m) l)):itSt m it l 0 h:=by
 cases m
 .exact⟨_,e,rfl,rfl⟩
 .exact⟨_,e,rfl,rfl⟩
theorem Inv.sq{m:Bool}(I:qI H s)(h:Sq X.K m H a xs):∃its:List Value,Vals xs its/\Qlx m a its s.heap/\xs.length<=sizeLine:=by
 cases m
 .obtain⟨its,b,p,c⟩:=I.tuple h
  exists its,b,p,by first | exact c | lia
 .obtain⟨its,b,p,c⟩:=I.list h
  exists its,b,p.isList,by first | exact c | lia
theorem Inv.sq_inj{m:Bool}(I:qI H s)(h:Sq X.K m H a xs)(h':Sq X.K m H a ys):xs=ys:=by
 cases m
 .exact I.tuple_inj h h'
 .exact I.list_inj h h'
theorem Inv.tupNew{ch:List Addr}{T:Addr}(I:qI H s)(j:(qa s)<=T)(r:Vals xs its)(hz:xs.length<=sizeLine)(e:h'.get? T=some { cls:=.type "tuple",data:=.seq its.toArray })
  (f:∀b∈ch,FpOk X pins H b) (k:∀b o,b∉ch->s.heap.get? b=some o->h'.get? b=some o) (A:∀b∈ch,∃o,h'.get? b=some o):qI (upd H T (.tup xs)) { s with heap:=h' }:=by
 have i:H T=none:=I.hok.fresh j
 have l:∀b o,H b=some o->b∉ch:=fun b o e z=>by rw[(f b z).1]at e;cases e
 refine I.step (g':=s.gens) (t':=s.toks) (d':=s.drawn) (ch:=ch) (fun b a=>⟨(f b a).2.2.2.1,(f b a).2.1,(f b a).2.2.2.2.1,(f b a).2.2.2.2.2⟩) (fun b o _ _ hc q _=>k b o hc q) (fun b o _ _ hc q _=>⟨o.slots,k b o hc q⟩) (fun b o _ q n=>?_) (fun b o hc q=>⟨o,k b o hc q⟩)
  (fun b xs q=>?_) (fun b o u q=>?_) (fun b B q=>⟨#[],?_⟩) (fun m x=>?_) (fun b w q=>?_) I.bare
 .rw[Qn (zV (xJ (yK q) j))];exact n
 .rw[Qn (Qk q i)];exact q
 .rw[Qn (Qk q i)];exact q
 .rw[Qn (Qk q i),Array.append_empty];exact q
 .obtain⟨o,p,y,q,d,r⟩:=x
  exists o,p,y,k _ o (fun z=>(f _ z).2.1 rfl) q,d,r
 .by_cases a:b=T
  .subst a
   rw[upd_same]at q;cases q
   exists hz,its,r,_,e,rfl,4
  .rw[Qn a]at q
   refine(I.hok b w q).stay (fun c v hc r=>k c v ?_ r) (fun c r=>by rw[Qn (Qk r i)];exact r) fun c xs r=>by rw[Qn (Qk r i)];exact r
   rcases hc with rfl | hc
   .exact l _ _ q
   .exact l _ _ hc
def Itz(K:Fg)(m1 m2:Bool)(a b:Addr):It :=
  ⟨fun i H=>∃xs ys x y,Sq K m1 H a xs/\Sq K m2 H b ys/\xs[i]?=some x/\ys[i]?=some y,
   fun i H v H'=>∃T x y,v=.ref T/\H T=none/\H'=upd H T (.tup [x,y])/\(∀xs,Sq K m1 H a xs->xs[i]?=some x)/\∀ys,Sq K m2 H b ys->ys[i]?=some y,
   fun i H=>∃xs ys,Sq K m1 H a xs/\Sq K m2 H b ys/\(xs.length<=i\/ys.length<=i)⟩
def zTn(m1 m2:Bool)(z u o i1 i2 a b:Addr)(i:Nat)(h:Heap):Prop:=IsZip h z u o .none/\IsPair h u (.ref i1) (.ref i2)/\(∃p q,IsPair h o p q)/\itSt m1 i1 a i h/\itSt m2 i2 b i h
theorem X0(n:Nat)(h:n<sizeLine:=by decide):n<sizeLine:=h
theorem Z1(n:Nat)(h:n<=sizeLine:=by decide):n<=sizeLine:=h
theorem Qsm{z u o i1 i2:Addr}(D:ZipApart z u o i1 i2 a b) :
  Turn P w K (.Tuple es kk tp) (Itz K m1 m2 a b) [z,u,o,i1,i2] z (zTn m1 m2 z u o i1 i2 a b) where
 mem:=by simp
 obj:=fun i h st c hc=>by
  obtain⟨h1,A,⟨p,q,S⟩,h4,U⟩:=st
  simp only[zK,jQb,or_false]at hc
  rcases hc with rfl | rfl | rfl | rfl | rfl
  .exact⟨_,h1,fun v z=>by cases z⟩
  .exact⟨_,A,fun v z=>by cases z⟩
  .exact⟨_,S,fun v z=>by cases z⟩
  .exact(Yz (P:=P) (w:=w) m1 c a).obj i h h4
  .exact(Yz (P:=P) (w:=w) m2 c b).obj i h U
 keep:=fun i h h' st k=>by
  obtain⟨h1,A,⟨p,q,S⟩,h4,U⟩:=st
  exists k z (by simp) _ h1,k u (by simp) _ A,⟨p,q,k o (by simp) _ S⟩,(Yz (P:=P) (w:=w) m1 i1 a).keep i h h' h4 (k i1 (by simp)),(Yz (P:=P) (w:=w) m2 i2 b).keep i h h' U (k i2 (by simp))
 item:=by
  intro X hP hw hK hc i j s σ H E I F st hg
  subst hP hw hK
  obtain⟨xs,ys,x,y,O,Q,R,hy⟩:=hg
  obtain⟨Z,r1,W,z1⟩:=I.sq O
  obtain⟨ab,r2,p2,z2⟩:=I.sq Q
  obtain⟨v1,e1,T⟩:=r1.get R
  obtain⟨v2,e2,V⟩:=r2.get hy
  obtain⟨C,l,⟨p,q,L⟩,J,M⟩:=st
  refine Qgs (Yz m1 i1 a) (Yz m2 i2 b) D C l L J M W p2 e1 e2 fun h' a1 a2 a3 a4 a5 a6 a7=>⟨_,rfl,?_⟩
  have f:∀c∈[z,o,i1,i2],FpOk X j H c:=fun c hc=>F c (by simp only[zK,jQb,or_false]at hc⊢;rcases hc with rfl | rfl | rfl | rfl<;>simp)
  have I1:Inv X j σ (upd H (qa s) (.tup [x,y])) { s with heap:=h' }:=I.tupNew (ch:=[z,o,i1,i2]) (jZ _) (.cons T (.cons V .nil)) (Z1 2) a5 f
   (fun c q hc e=>by simp only[zK,jQb,or_false,not_or]at hc;exact a7 c q hc.1 hc.2.1 hc.2.2.1 hc.2.2.2 e)
   (fun c hc=>by
    simp only[zK,jQb,or_false]at hc
    rcases hc with rfl | rfl | rfl | rfl
    .exact⟨_,a1⟩
    .exact⟨_,a2⟩
    .obtain⟨q,e,_⟩:=(Yz (P:=X.prog) (w:=X.w) m1 c a).obj _ _ a3;exists q,e
    .obtain⟨q,e,_⟩:=(Yz (P:=X.prog) (w:=X.w) m2 c b).obj _ _ a4;exists q,e)
  refine wpAny_letOwnedTupleGo_zip (s:={ s with heap:=h' }) a1 fun A g1 G=>?_
  obtain⟨f0,f1,f2,f3,f4,f5⟩:=F z (by simp)
  have B:z<(qa s):=yK C
  have I2:Inv X j σ (upd H (qa s) (.tup [x,y])) { s with heap:=A }:=I1.turned (h':=A) (t':=s.toks) (fun c q hc e=>G.extBut c q hc e) (by rw[Qn (zV B)];exact f0) f1 f3 f4 f5
  have ac:IsPair h' u (.ref i1) (.ref i2):=a7 u _ D.TIz D.TITO D.TIi1 D.TIi2 l
  exists .ref (qa s),_,I2,rfl,⟨_,x,y,rfl,I.hok.fresh (jZ _),rfl,fun ae Y=>by rw[I.sq_inj Y O];exact R,fun ad Y=>by rw[I.sq_inj Y Q];exact hy⟩,?_,fun c hc=>?_
  .exact⟨g1,G.extBut _ _ D.TIz ac,⟨_,_,G.extBut _ _ D.TOz a2⟩,(Yz (P:=X.prog) (w:=X.w) m1 i1 a).keep _ _ _ a3 fun q e=>G.extBut _ _ D.i1z e,(Yz (P:=X.prog) (w:=X.w) m2 i2 b).keep _ _ _ a4 fun q e=>G.extBut _ _ D.i2z e⟩
  .have aa:c≠(qa s):=by
    have af:zTn m1 m2 z u o i1 i2 a b i s.heap:=⟨C,l,⟨p,q,L⟩,J,M⟩
    simp only[zK,jQb,or_false]at hc
    rcases hc with rfl | rfl | rfl | rfl | rfl
    .exact zV B
    .exact zV (yK l)
    .exact zV (yK L)
    .obtain⟨q,e,_⟩:=(Yz (P:=X.prog) (w:=X.w) m1 c a).obj _ _ J;exact zV (yK e)
    .obtain⟨q,e,_⟩:=(Yz (P:=X.prog) (w:=X.w) m2 c b).obj _ _ M;exact zV (yK e)
   rw[Qn aa]
   exact(F c hc).1
 done:=by
  intro X hP hw hK hc i j s σ H E I F st hg
  subst hP hw hK
  obtain⟨xs,ys,O,Q,R⟩:=hg
  obtain⟨Z,r1,W,z1⟩:=I.sq O
  obtain⟨ab,r2,p2,z2⟩:=I.sq Q
  obtain⟨C,l,⟨p,q,L⟩,J,M⟩:=st
  have l1:=r1.length
  have l2:=r2.length
  refine Qin (I.ok.hd hc) (Yz m1 i1 a) (Yz m2 i2 b) D C l L J M W p2 (by
   rcases R with h | h
   .exact .inl (jXe.mpr Om)
   .exact .inr (jXe.mpr Om)) fun h' k=>⟨rfl,?_⟩
  have f:∀c∈[z,o,i1,i2],FpOk X j H c:=fun c hc=>F c (by simp only[zK,jQb,or_false]at hc⊢;rcases hc with rfl | rfl | rfl | rfl<;>simp)
  have tr:∀c q,H c=some q->c∉[z,o,i1,i2]:=fun c q e y=>by rw[(f c y).1]at e;cases e
  have kk:∀c q,c∉[z,o,i1,i2]->s.heap.get? c=some q->h'.get? c=some q:=fun c q hc e=>by
   simp only[zK,jQb,or_false,not_or]at hc
   exact k c q hc.1 hc.2.1 hc.2.2.1 hc.2.2.2 e
  refine I.step (g':=s.gens) (t':=s.toks) (d':=s.drawn) (ch:=[z,o,i1,i2]) (fun b N=>⟨(f b N).2.2.2.1,(f b N).2.1,(f b N).2.2.2.2.1,(f b N).2.2.2.2.2⟩) (fun b o _ _ hc q _=>kk b o hc q) (fun b o _ _ hc q _=>⟨o.slots,kk b o hc q⟩) (fun b o _ q n=>n) (fun b o hc q=>⟨o,kk b o hc q⟩)
   (fun b xs q=>q) (fun b o u q=>q) (fun b ps q=>⟨#[],by rw[Array.append_empty];exact q⟩) (fun m hm=>?_) (fun b ob q=>?_) I.bare
  .obtain⟨o,es,ep,q,d,r⟩:=hm
   exists o,es,ep,kk _ o (fun z=>(f _ z).2.1 rfl) q,d,r
  .refine(I.hok b ob q).stay (fun c v hc r=>kk c v ?_ r) (fun c r=>r) fun c xs r=>r
   rcases hc with rfl | hc
   .exact tr _ _ q
   .exact tr _ _ hc
 self:=fun _ _ _ _ _ st h=>wpAny_pyIter_zip st.1 h
def iZip(K:Fg)(m1 m2:Bool)(ta:TA):TI:=fun σ H R=>ta σ H fun vs H1=>∃a b,vs=[.ref a,.ref b]/\(∃xs,Sq K m1 H1 a xs)/\(∃ys,Sq K m2 H1 b ys)/\R (Itz K m1 m2 a b) H1
theorem Qnx{xs ys:List Value}{Q:VP}(y:Qlx m1 a xs s.heap)(u:Qlx m2 b ys s.heap)
  (h:∀h',IsZip h' ((qa s)+4) ((qa s)+2) ((qa s)+3) .none->IsPair h' ((qa s)+2) (.ref (qa s)) (.ref ((qa s)+1))->IsPair h' ((qa s)+3) .none .none ->
   itSt m1 (qa s) a 0 h'->itSt m2 ((qa s)+1) b 0 h'->(∀c o,s.heap.get? c=some o->h'.get? c=some o)->Q (.ref ((qa s)+4)) { s with heap:=h' }) :
  qe P w A (call (.type "zip") [.ref a,.ref b]) Q E s:=by
 refine callType_new F.called_zip Dc (F.typeCall_zip_2 _ _) (F.newCall_zip_2 _ _) (fun j=>F.args_object_init_3 j _ _) F.entry_zip_new (Qnw (Qio m1 a xs) (Qio m2 b ys)) ⟨y,u,?_⟩
 have n:(zH1 s.heap (itN m1) a).objs.size=(qa s)+1:=jZc ..
 have k:(zH2 s.heap (itN m1) (itN m2) a b).objs.size=(qa s)+2:=by unfold zH2;rw[jZc,n]
 have m:(zH3 s.heap (itN m1) (itN m2) a b).objs.size=(qa s)+3:=by unfold zH3;rw[jZc,k]
 have t:(zH4 s.heap (itN m1) (itN m2) a b).objs.size=(qa s)+4:=by unfold zH4;rw[jZc,m]
 have l:(zH5 s.heap (itN m1) (itN m2) a b).get? (zH4 s.heap (itN m1) (itN m2) a b).objs.size=some { cls:=.type "zip",data:=.fields #[.none,.bool false,.bool false,.ref (zH2 s.heap (itN m1) (itN m2) a b).objs.size,.ref (zH3 s.heap (itN m1) (itN m2) a b).objs.size] }:=yJ _ rfl
 have f:∀c o,(zH4 s.heap (itN m1) (itN m2) a b).get? c=some o->(zH5 s.heap (itN m1) (itN m2) a b).get? c=some o:=fun c o e=>jV _ e
 have i:∀c o,(zH3 s.heap (itN m1) (itN m2) a b).get? c=some o->(zH5 s.heap (itN m1) (itN m2) a b).get? c=some o:=fun c o e=>f c o (jV _ e)
 have d:∀c o,(zH2 s.heap (itN m1) (itN m2) a b).get? c=some o->(zH5 s.heap (itN m1) (itN m2) a b).get? c=some o:=fun c o e=>i c o (jV _ e)
 have g:∀c o,(zH1 s.heap (itN m1) a).get? c=some o->(zH5 s.heap (itN m1) (itN m2) a b).get? c=some o:=fun c o e=>d c o (jV _ e)
 have q:(zH5 s.heap (itN m1) (itN m2) a b).get? (zH3 s.heap (itN m1) (itN m2) a b).objs.size=some { cls:=.type "tuple",data:=.seq #[.none,.none] }:=f _ _ (yJ _ rfl)
 have r:(zH5 s.heap (itN m1) (itN m2) a b).get? (zH2 s.heap (itN m1) (itN m2) a b).objs.size=some { cls:=.type "tuple",data:=.seq #[.ref (qa s),.ref (zH1 s.heap (itN m1) a).objs.size] }:=i _ _ (yJ _ rfl)
 have p:(zH5 s.heap (itN m1) (itN m2) a b).get? (zH1 s.heap (itN m1) a).objs.size=some (Vj (itN m2) b):=d _ _ (yJ _ rfl)
 have v:(zH5 s.heap (itN m1) (itN m2) a b).get? (qa s)=some (Vj (itN m1) a):=g _ _ (yJ _ rfl)
 show _/\_
 rw[k,m,t]at l
 rw[n,k]at r
 rw[m]at q
 rw[n]at p
 rw[t]
 exists ⟨_,l,rfl⟩,h _ l r q (Qej m1 v) (Qej m2 p) fun c o x=>g c o (jV _ x)
theorem Qny{n l1 l2:Addr}(b:l1<n)(c:l2<n):ZipApart (n+4) (n+2) (n+3) n (n+1) l1 l2:=by
 have a:@LT.lt Nat _ l1 n:=b
 have d:@LT.lt Nat _ l2 n:=c
 constructor<;>(show @Ne Nat _ _)<;>lia
theorem Qek{m:Bool}{xs:List Value}(e:Qlx m a xs h):a<h.objs.size:=by
 cases m
 .obtain⟨o,e,_⟩:=e;exact yK e
 .obtain⟨o,e,_⟩:=e;exact yK e
theorem Qnz{a b:Expr}{p:Pos}(m1 m2:Bool)(M:Gl X "zip")(P:X.mg "zip"=none)(J:PA X [a,b] ta)(D:qb (starEach [a,b] X.env=[(false,eval a X.env),(false,eval b X.env)]))(j:qb (starEach [b] X.env=[(false,eval b X.env)])) :
  PI X (.Tuple es kk tp) (.Call (.Name "zip" p) [a,b] [] pos) (iZip X.K m1 m2 ta):=by
 intro f s o H R I h
 refine Call_ (Vm I M P (u:=.type "zip") (by rfl) (PyProof.Rows.callWith_type1 (thn (J pos f s o H _ I h) fun us d l=>?_) (by rw[D,j]) (by rw[j];rfl)))
 obtain⟨vs,y,i,x,k⟩:=l
 obtain⟨Z,U,e,⟨xs,k⟩,⟨Y,B⟩,q⟩:=k
 subst e
 obtain⟨S,W,rfl,E,G⟩:=x.two
 cases E
 cases G
 obtain⟨C,x,m,z1⟩:=i.sq k
 obtain⟨L,V,v,T⟩:=i.sq B
 refine Qnx m v fun w r z A Q F N=>?_
 have O:Inv X f o y { d with heap:=w }:=i.kept (t':=d.toks) N
 refine wpAny_pyIter_zip (s:={ d with heap:=w }) r ⟨_,[(qa d)+4,(qa d)+2,(qa d)+3,(qa d),(qa d)+1],_,_,y,rfl,O,Qsm (Qny (Qek m) (Qek v)),⟨r,z,⟨_,_,A⟩,Q,F⟩,fun c n=>?_,q⟩
 have g:(qa d)<=c:=by
  simp only[zK,jQb,or_false]at n
  rcases n with rfl | rfl | rfl | rfl | rfl
  .exact kYf _ _
  .exact kYf _ _
  .exact kYf _ _
  .exact jZ _
  .exact kYf _ _
 exact i.fpOk g (i.hok.fresh g)
def isiV(K:Fg)(H:Hp):V->String->Bool->Prop
 |.int _,T,b=>(T="int"/\b=true)\/(T="bool"/\b=false)\/(T="tuple"/\b=false)
 |.bl _,T,b=>(T="int"/\b=true)\/(T="bool"/\b=true)\/(T="tuple"/\b=false)
 |.ref a,T,b=>(∃xs,SqT K H a xs)/\((T="tuple"/\b=true)\/(T="int"/\b=false)\/(T="bool"/\b=false))
 |_,_,_=>False
theorem Qjz:Jb X (.builtin "isinstance") (fun xs H Q=>∃x T b,xs=[x,.ty T]/\isiV X.K H x T b/\Q (.bl b) H):=by
 intro f s m H xs w Q I l h
 obtain⟨x,T,b,rfl,d,q⟩:=h
 obtain⟨u,v,rfl,g,p⟩:=l.two
 cases p
 have fin:∀(i:Nat),EP X f m Q (.bool b) { s with toks:=i }:=fun i=>⟨.bl b,H,I.tok i,rfl,q⟩
 cases x with
 |int n=>
  obtain⟨t,rfl⟩:=g
  rcases d with⟨rfl,rfl⟩ | ⟨rfl,rfl⟩ | ⟨rfl,rfl⟩
  .exact IsiPair.int_int (fin s.toks)
  .exact IsiPair.int_bool (fin _)
  .exact IsiPair.int_tuple (fin _)
 |bl n=>
  cases g
  rcases d with⟨rfl,rfl⟩ | ⟨rfl,rfl⟩ | ⟨rfl,rfl⟩
  .exact IsiPair.bool_int (fin s.toks)
  .exact IsiPair.bool_bool (fin s.toks)
  .exact IsiPair.bool_tuple (fin _)
 |ref a=>
  cases g
  obtain⟨⟨xs,k⟩,d⟩:=d
  obtain⟨j,r,⟨o,e,c,_⟩,_⟩:=I.tuple k
  rcases d with⟨rfl,rfl⟩ | ⟨rfl,rfl⟩ | ⟨rfl,rfl⟩
  .exact IsiPair.tuple_tuple e c (fin s.toks)
  .exact IsiPair.tuple_int e c (fin _)
  .exact IsiPair.tuple_bool e c (fin _)
 |non=>exact d.elim
 |str _=>exact d.elim
 |byt _=>exact d.elim
 |flt _=>exact d.elim
 |ty _=>exact d.elim
theorem Qby(j:X.calm=true):Jb X (.builtin "sum") (fun xs H Q=>∃(a:Addr) (ns:List Int),xs=[.ref a]/\SqL X.K H a (ns.map V.int)/\Q (.int ns.sum) H):=by
 intro g s w H xs z Q I n h
 obtain⟨a,ns,rfl,i,q⟩:=h
 obtain⟨u,rfl,o⟩:=n.one
 cases o
 obtain⟨b,r,p,A⟩:=I.list i
 have e:IntsAre b.toArray.toList ns:=intsAre_of r
 have c:AllInts b.toArray:=e.allInts
 obtain⟨xs,f⟩:=c.items
 have d:s.heap.IsList a (intItems xs):=f▸p.isList
 refine sum_intListG (I.ok.hd j) d fun x y v l=>?_
 have k:ns=xs.toList.map (·.1):=by
  rw[<-nums_intItems,<-f]
  exact(show numsOf b.toArray.toList=ns from e.numsOf).symm
 have m:preSum (numAt xs) xs.size=ns.sum:=by
  rw[preSum_eq,yW (by simp),k]
 rw[m]
 exists .int ns.sum,H,I.kept l,⟨_,rfl⟩,q
theorem Qoa{bs:List Bool}(r:Vals (bs.map V.bl) its){v:Value}(h:its[i]?=some v):∃b,bs[i]?=some b/\v=.bool b:=by
 have e:=r.length
 obtain⟨f,_⟩:=jW.mp h
 rw[jQ]at e
 have a:bs[i]?=some bs[i]:=gE Om
 obtain⟨u,c,d⟩:=r.get (i:=i) (x:=.bl bs[i]) (by rw[jY,a];rfl)
 rw[h]at c;cases c
 exists _,a,d
theorem Qsn(bs:List Bool):((List.range bs.length).all fun i=>(bs[i]?).getD true)=bs.all id:=by
 rw[jXc]
 simp only[jJd,wZ,id]
 constructor
 .intro h b c
  obtain⟨i,a,e⟩:=List.getElem_of_mem c
  have:=h i a
  rw[gE a]at this
  simpa[e]using this
 .intro h i a
  rw[gE a]
  exact h _ (jXd a)
theorem Qso(bs:List Bool):((List.range bs.length).any fun i=>(bs[i]?).getD false)=bs.any id:=by
 rw[jXc]
 simp only[kJd,wZ,id]
 constructor
 .rintro⟨i,a,h⟩
  rw[gE a]at h
  exists _,jXd a,h
 .rintro⟨b,c,h⟩
  obtain⟨i,a,e⟩:=List.getElem_of_mem c
  exists i,a,by rw[gE a];simpa[e]using h
theorem Qob{o:Obj}(c:∀b x,b∉[h.objs.size]->(h.push o).get? b=some x->h'.get? b=some x):∀b x,h.get? b=some x->h'.get? b=some x:=fun b x e=>
 c b x (fun a=>by rw[kW.mp a]at e;exact kQd _ (yK e)) (jV _ e)
theorem Qbz(l:X.calm=true):Jb X (.builtin "all") (fun xs H Q=>∃(a:Addr) (bs:List Bool),xs=[.ref a]/\SqL X.K H a (bs.map V.bl)/\Q (.bl (bs.all id)) H):=by
 intro j s y H xs D Q I o h
 obtain⟨a,bs,rfl,k,q⟩:=h
 obtain⟨u,rfl,t⟩:=o.one
 cases t
 obtain⟨c,r,p,F⟩:=I.list k
 have d:a<(qa s):=by obtain⟨_,e,_⟩:=p.isList;exact yK e
 have g:=r.length
 rw[jQ]at g
 refine call_all_walk (wpAny_pyIter_list p.isList ?_)
 exists (qa s),[(qa s),a],[(qa s)],c.toArray.size,_,_,fun i=>(bs[i]?).getD true,rfl,Walks.list (A:=X.A.in1) (I.ok.hd l) _ a (zV d) c.toArray,⟨⟨_,yJ _ rfl,rfl,rfl⟩,p.isList.push _⟩,fun i v B x w m f=>?_,fun z C n=>?_
 .obtain⟨b,e,rfl⟩:=Qoa r (by simpa using m)
  simp only[e,kJc]at f
  exact Y31 f
 .rw[kQ,<-g,Qsn]
  exists .bl (bs.all id),H,I.kept (Qob n),rfl,q
theorem Qgt(l:X.calm=true):Jb X (.builtin "any") (fun xs H Q=>∃(a:Addr) (bs:List Bool),xs=[.ref a]/\SqL X.K H a (bs.map V.bl)/\Q (.bl (bs.any id)) H):=by
 intro j s y H xs D Q I o h
 obtain⟨a,bs,rfl,k,q⟩:=h
 obtain⟨u,rfl,t⟩:=o.one
 cases t
 obtain⟨c,r,p,F⟩:=I.list k
 have d:a<(qa s):=by obtain⟨_,e,_⟩:=p.isList;exact yK e
 have g:=r.length
 rw[jQ]at g
 refine call_any_walk (wpAny_pyIter_list p.isList ?_)
 exists (qa s),[(qa s),a],[(qa s)],c.toArray.size,_,_,fun i=>(bs[i]?).getD false,rfl,Walks.list (A:=X.A.in1) (I.ok.hd l) _ a (zV d) c.toArray,⟨⟨_,yJ _ rfl,rfl,rfl⟩,p.isList.push _⟩,fun i v B x w m f=>?_,fun z C n=>?_
 .obtain⟨b,e,rfl⟩:=Qoa r (by simpa using m)
  simp only[e,kJc]at f
  exact Y31 f
 .rw[kQ,<-g,Qso]
  exists .bl (bs.any id),H,I.kept (Qob n),rfl,q
inductive D where
 |non | bl (b:Bool) | int (i:Int) | tup (xs:List D) | lst (xs:List D)
inductive HasD (K:Fg) (H:Hp):V->D->Prop
 |non:HasD K H .non .non
 |bl (b:_):HasD K H (.bl b) (.bl b)
 |int (i:_):HasD K H (.int i) (.int i)
 |tup {a vs xs:_}:SqT K H a vs->vs.length=xs.length->(∀(i:Nat) v x,vs[i]?=some v->xs[i]?=some x->HasD K H v x)->HasD K H (.ref a) (.tup xs)
 |lst {a vs xs:_}:SqL K H a vs->vs.length=xs.length->(∀(i:Nat) v x,vs[i]?=some v->xs[i]?=some x->HasD K H v x)->HasD K H (.ref a) (.lst xs)
inductive Alike:Nat->D->D->Prop
 |non {n:_}:Alike n .non .non
 |bl {n:_} (a b):Alike n (.bl a) (.bl b)
 |int {n:_} (a b):Alike n (.int a) (.int b)
 |tup {n xs ys:_}:(∀(i:Nat) x y,xs[i]?=some x->ys[i]?=some y->Alike n x y)->Alike (n+1) (.tup xs) (.tup ys)
 |lst {n xs ys:_}:(∀(i:Nat) x y,xs[i]?=some x->ys[i]?=some y->Alike n x y)->Alike (n+1) (.lst xs) (.lst ys)
theorem Qel{α:Type}{xs ys:List α}(b:xs.length=ys.length)(h:∀(i:Nat) x y,xs[i]?=some x->ys[i]?=some y->x=y):xs=ys:=by
 refine jZd fun i=>?_
 by_cases a:i<xs.length
 .rw[gE a,gE (by lia:i<ys.length)]
  exact congrArg some (h i _ _ (gE a) (gE Om))
 .rw[wX Om,wX Om]
theorem Inv.noTL(I:qI H s)(h:SqT X.K H a xs)(h':SqL X.K H a ys):False:=by
 obtain⟨_,_,⟨o,e,c,_⟩,_⟩:=I.tuple h
 obtain⟨_,_,p,_⟩:=I.list h'
 obtain⟨f,b,d,_⟩:=p.isList
 rw[e]at b;cases b
 rw[c]at d
 injection d with z
 exact Y21 z Dc
theorem Qka(I:qI H s){x:V}{d:D}(h:HasD X.K H x d):∀e,HasD X.K H x e->d=e:=by
 induction h with
 |non=>intro e h;cases h;rfl
 |bl b=>intro e h;cases h;rfl
 |int i=>intro e h;cases h;rfl
 |tup hq hl hs ih=>
  intro e h
  cases h with
  |tup hq' hl' hs'=>
   obtain rfl:=I.tuple_inj hq hq'
   refine congrArg D.tup (Qel (hl.symm.trans hl') fun i x y c f=>?_)
   have a:i<_:=(jW.mp c).1
   rw[<-hl]at a
   exact ih i _ x (gE a) c y (hs' i _ y (gE a) f)
  |lst hq' hl' hs'=>exact(I.noTL hq hq').elim
 |lst hq hl hs ih=>
  intro e h
  cases h with
  |lst hq' hl' hs'=>
   obtain rfl:=I.list_inj hq hq'
   refine congrArg D.lst (Qel (hl.symm.trans hl') fun i x y c f=>?_)
   have a:i<_:=(jW.mp c).1
   rw[<-hl]at a
   exact ih i _ x (gE a) c y (hs' i _ y (gE a) f)
  |tup hq' hl' hs'=>exact(I.noTL hq' hq).elim
theorem Vz{e:Nat->Bool}:(List.range n).all e=true↔∀i,i<n->e i=true:=by simp[jJd]
open PySem.SeqAt Classical in
theorem Qvl{d e:D}(h:Alike n d e):∀{A:Around} {x y:V} {u v:Value},A.units+n<cLine->qI H s->RelV x u->RelV y v->HasD X.K H x d->HasD X.K H y e ->
  ∃b:Bool,(b=true↔d=e)/\EqAt A s u v b/\(∀a c,u=.ref a->v=.ref c->RcAt A s u v b/\RcNeAt A s u v (!b)):=by
 induction h with
 |non=>
  intro A x y u v hu I G F E C
  cases E
  cases C
  cases G
  cases F
  exists true,by simp,EqAt.same _,fun a c e _=>nomatch e
 |bl a b=>
  intro A x y u v hu I G F E C
  cases E
  cases C
  cases G
  cases F
  exists a == b,by simp,EqAt.bool_bool a b,fun a c e _=>nomatch e
 |int a b=>
  intro A x y u v hu I G F E C
  cases E
  cases C
  obtain⟨t,rfl⟩:=G
  obtain⟨t',rfl⟩:=F
  exists a == b,by simp,EqAt.int_int a t b t',fun a c e _=>nomatch e
 |@tup m xs ys hs ih=>
  intro A x y u v hu I G F E C
  have L:=E
  have R:=C
  cases E with
  |@tup p vs _ hq hl hv=>
  cases C with
  |@tup q ws _ hq' hl' hv'=>
  cases G
  cases F
  obtain⟨g,r,pt,_⟩:=I.tuple hq
  obtain⟨f,S,k,_⟩:=I.tuple hq'
  have l1:=r.length
  have l2:=S.length
  have w:∀j (T:j<g.toArray.size) (h2:j<f.toArray.size),EqAt A.in1 s g.toArray[j] f.toArray[j] (decide (xs[j]?=ys[j]?)):=fun j T h2=>by
   rw[kQ]at T h2
   have U:j<vs.length:=Om
   have W:j<ws.length:=Om
   have P:j<xs.length:=Om
   have O:j<ys.length:=Om
   obtain⟨u1,Y,N⟩:=r.get (gE U)
   obtain⟨u2,Z,M⟩:=S.get (gE W)
   obtain⟨b,B,eq,_⟩:=ih j _ _ (gE P) (gE O) (A:=A.in1) (by show A.units+1+m<cLine;lia) I N M (hv j _ _ (gE U) (gE P)) (hv' j _ _ (gE W) (gE O))
   have Q:g.toArray[j]=u1:=by rw[gE Om]at Y;simpa using Y
   have z2:f.toArray[j]=u2:=by rw[gE Om]at Z;simpa using Z
   rw[Q,z2]
   have:(decide (xs[j]?=ys[j]?))=b:=by
    rw[jXc,decide_eq_true_iff,B,gE P,gE O]
    exists fun z=>Y5 z,fun z=>congrArg some z
   rw[this]
   exact eq
  have B:((List.range (min g.toArray.size f.toArray.size)).all (fun j=>decide (xs[j]?=ys[j]?))&&g.toArray.size == f.toArray.size)=true↔D.tup xs=D.tup ys:=by
   rw[xV,Vz,kQ,kQ,beq_iff_eq]
   constructor
   .rintro⟨Q,z2⟩
    refine congrArg D.tup (Qel Om fun i x y ex ey=>?_)
    have hi:=(jW.mp ex).1
    have:=kZ (Q i Om)
    rw[ex,ey]at this
    exact Y5 this
   .intro z
    injection z with z
    subst z
    exists fun i _=>zX rfl,Om
  exists _,B,?_,fun a c _ _=>⟨RcAt.tuples pt k Om w,RcNeAt.tuples pt k Om w⟩
  by_cases l:p=q
  .subst l
   rw[B.mpr (Qka I L _ R)]
   exact EqAt.same _
  .exact EqAt.of_refs l (RcAt.tuples pt k Om w)
 |@lst m xs ys hs ih=>
  intro A x y u v hu I G F E C
  have L:=E
  have R:=C
  cases E with
  |@lst p vs _ hq hl hv=>
  cases C with
  |@lst q ws _ hq' hl' hv'=>
  cases G
  cases F
  obtain⟨g,r,pt,_⟩:=I.list hq
  obtain⟨f,S,k,_⟩:=I.list hq'
  have l1:=r.length
  have l2:=S.length
  have w:∀j (T:j<g.toArray.size) (h2:j<f.toArray.size),EqAt A.in1 s g.toArray[j] f.toArray[j] (decide (xs[j]?=ys[j]?)):=fun j T h2=>by
   rw[kQ]at T h2
   have U:j<vs.length:=Om
   have W:j<ws.length:=Om
   have P:j<xs.length:=Om
   have O:j<ys.length:=Om
   obtain⟨u1,Y,N⟩:=r.get (gE U)
   obtain⟨u2,Z,M⟩:=S.get (gE W)
   obtain⟨b,B,eq,_⟩:=ih j _ _ (gE P) (gE O) (A:=A.in1) (by show A.units+1+m<cLine;lia) I N M (hv j _ _ (gE U) (gE P)) (hv' j _ _ (gE W) (gE O))
   have Q:g.toArray[j]=u1:=by rw[gE Om]at Y;simpa using Y
   have z2:f.toArray[j]=u2:=by rw[gE Om]at Z;simpa using Z
   rw[Q,z2]
   have:(decide (xs[j]?=ys[j]?))=b:=by
    rw[jXc,decide_eq_true_iff,B,gE P,gE O]
    exists fun z=>Y5 z,fun z=>congrArg some z
   rw[this]
   exact eq
  by_cases o:g.toArray.size=f.toArray.size
  .have B:((List.range g.toArray.size).all (fun j=>decide (xs[j]?=ys[j]?)))=true↔D.lst xs=D.lst ys:=by
    rw[kQ,kQ]at o
    rw[Vz,kQ]
    constructor
    .intro Q
     refine congrArg D.lst (Qel Om fun i x y ex ey=>?_)
     have hi:=(jW.mp ex).1
     have:=kZ (Q i Om)
     rw[ex,ey]at this
     exact Y5 this
    .intro z
     injection z with z
     subst z
     exact fun i _=>zX rfl
   exists _,B,?_,fun a c _ _=>⟨RcAt.lists pt.isList k.isList o Om w,RcNeAt.lists pt.isList k.isList o Om w⟩
   by_cases l:p=q
   .subst l
    rw[B.mpr (Qka I L _ R)]
    exact EqAt.same _
   .exact EqAt.of_refs l (RcAt.lists pt.isList k.isList o Om w)
  .have J:(g.toArray.size != f.toArray.size)=true:=by simpa using o
   have B:false=true↔D.lst xs=D.lst ys:=by
    rw[kQ,kQ]at o
    constructor
    .intro z;cases z
    .intro z
     injection z with z
     subst z
     lia
   exists false,B,?_,fun a c _ _=>⟨RcAt.lists_lengths pt.isList k.isList J Om,RcNeAt.lists_lengths pt.isList k.isList J Om⟩
   by_cases l:p=q
   .subst l
    obtain rfl:=I.list_inj hq hq'
    rw[kQ,kQ]at o
    lia
   .exact EqAt.of_refs l (RcAt.lists_lengths pt.isList k.isList J Om)
theorem Qvm(m:X.A.units+n<cLine):OpR X (compareOp .Eq) (fun x y H Q=>∃a b d e,x=.ref a/\y=.ref b/\HasD X.K H x d/\HasD X.K H y e/\Alike n d e/\∀c:Bool,(c=true↔d=e)->Q (.bl c) H):=by
 intro f s r H x y v u Q I g o h
 obtain⟨a,b,d,e,rfl,rfl,p,i,k,q⟩:=h
 cases g
 cases o
 obtain⟨c,j,_,l⟩:=Qvl k (A:=X.A) (x:=.ref a) (y:=.ref b) (u:=.ref a) (v:=.ref b) m I rfl rfl p i
 exact(l a b rfl rfl).1 _ _ _ _ ⟨.bl c,H,I,rfl,q c j⟩
theorem Qkb(m:X.A.units+n<cLine):OpR X (compareOp .NotEq) (fun x y H Q=>∃a b d e,x=.ref a/\y=.ref b/\HasD X.K H x d/\HasD X.K H y e/\Alike n d e/\∀c:Bool,(c=true↔d=e)->Q (.bl (!c)) H):=by
 intro f s r H x y v u Q I g o h
 obtain⟨a,b,d,e,rfl,rfl,p,i,k,q⟩:=h
 cases g
 cases o
 obtain⟨c,j,_,l⟩:=Qvl k (A:=X.A) (x:=.ref a) (y:=.ref b) (u:=.ref a) (v:=.ref b) m I rfl rfl p i
 exact(l a b rfl rfl).2 _ _ _ _ ⟨.bl (!c),H,I,rfl,q c j⟩
def Fn(K:Fg)(mg:Z9)(x:Str)(st:Stmt):Prop:=∃f fd,Fun K x x st f fd/\mg x=some (.ref f)
theorem Xn{st:Stmt}{kV:Value}(X:K.In h)(G:h.Ns mainGlobals mg)
  (a:PySem.W.nsIn K mainGlobals x=some (some (.ref f))) (l:K.lookup f=some ⟨oc,od,.func (PySem.W.fnOf x x (Qu st) (Qs st) (Qf st) .none kV doc pm an cdv ct),osl⟩) (c:PySem.W.codeIn K cdv x=true) (k:PySem.W.keepIn K (.ref f)=true):Fn K mg x st :=
 ⟨f,_,fun_mk l c k,PySem.W.mg_of X G a⟩
structure Cal(P:Program)(w:World)(K:Fg)(mg:Z9)(base:Heap)(k:Nat)(x:Str)(ps:List Str)(sp:Sp):Prop where
 ex:∃f fd,FnOk P w K mg base CX0 k f fd ps sp/\mg x=some (.ref f)/\PySem.W.keepIn K (.ref f)=true/\Binds K fd ps []
theorem Cal.mono{k:Nat}{ps:List Str}(C:qC j x ps sp)(h:j<=k):qC k x ps sp:=by
 obtain⟨f,a,F,m,c,b⟩:=C.ex
 exists f,a,F.mono h,m,c,b
theorem Xd{k:Nat}{st:Stmt}{ps:List Str}(F:Fn K mg x st)(S:FnScope N ps (Qf st))
  (c:autoParam (∀(kV doc pm:Value) (an:Option Addr) (cdv ct:Value) (us:List Value),us.length=ps.length->bindArgs (PySem.W.fnOf x x (Qu st) (Qs st) (Qf st) .none kV doc pm an cdv ct) ⟨us,[]⟩=pure (ps.zip us)) J7._auto_1) (len:autoParam (∀vs H Q E,sp vs H Q E->vs.length=ps.length) J8._auto_1)
  (a:∀(f:Addr) (cdv:Value) (A:Around) (outer:List Env) (s:Shared) (H:Hp) (vs:List V) (Q:VK) (E:XK),Room k (A.deeper (envOfC x (Qf st) (qa s) f cdv))->sp vs H Q E ->
   ∃t,PSs (cxOf CX0 P w K mg base N x (Qf st) f cdv A outer s H E).nox (Qs st) t/\t { nx:=fun _ H'=>Q .non H',rt:=Q } (start N vs) H):qC (k+1) x ps sp:=by
 obtain⟨f,b,F,m⟩:=F
 exists f,b,F.ok S len (a f),m,F.kp,F.binds c
theorem Xc{k:Nat}{ps:List Str}{t:TA}{p:Pos}(C:Cal X.prog X.w X.K X.mg X.base k x ps sp)(i:Room k X.A)(g:PA X (e::es) t)(d:qb (Gl X x))
  (c:qc ((x == ("__debug__":Str))=false)) (he:qb (starEach (e::es) X.env=(false,eval e X.env)::starEach es X.env)) (a:qb ((backTo pos (starEach es X.env)).any (·.1)=false)) :
  PE X (.Call (.Name x p) (e::es) [] pos) (Qnm sp [] E0 t):=by
 obtain⟨f,j,F,m,h,b⟩:=C.ex
 exact Qwk F i d m h b .nil Qwn g c he a
theorem Jl(a:X.mg x=none)(hv:bootBuiltins x=some (.type T))(b:qb (Gl X x))(c:qc (x≠"__name__"))(hd:qc ((x == ("__debug__":Str))=false)):PE X (.Name x pos) (tC (.ty T)) :=
 Qwh b a hv (v:=.ty T) rfl c hd
def gPair(K:Fg)(i j:Nat):TG:=gTup K 2 (Qwi (Qna i) (Qwi (Qna j) gNil))
theorem Yg{y:Str}{px py:Pos}{k:Nat}(d:X.K=K)(e:X.calm=true)(a:X.N.Nodup)(g:X.N[i]?=some x)(f:X.N[j]?=some y)(c:qh X x=some .local)(b:qh X y=some .local) :
  PG X (.Tuple [.Name x px,.Name y py] k pos) (gPair K i j):=by
 subst d
 exact Qvg e (Qbb (Xa a g (.inl c) (.inr c)) (Qbb (Xa a f (.inl b) (.inr b)) Qnb))
theorem Qy:bootBuiltins "len"=some (.builtin "len"):=Dk
theorem Qoc:bootBuiltins "sum"=some (.builtin "sum"):=Dk
theorem Qod:bootBuiltins "all"=some (.builtin "all"):=Dk
theorem Qvn:bootBuiltins "any"=some (.builtin "any"):=Dk
theorem Qw:bootBuiltins "isinstance"=some (.builtin "isinstance"):=Dk
theorem Qvo:bootBuiltins "min"=some (.builtin "min"):=Dk
theorem Qgu:bootBuiltins "max"=some (.builtin "max"):=Dk
theorem Jg:bootBuiltins "sorted"=some (.builtin "sorted"):=Dk
theorem Qdo:bootBuiltins "int"=some (.type "int"):=Dk
theorem Qem:bootBuiltins "bool"=some (.type "bool"):=Dk
theorem Xo:bootBuiltins "tuple"=some (.type "tuple"):=Dk
theorem Yj:bootBuiltins "list"=some (.type "list"):=Dk
theorem Qwp:bootBuiltins "dict"=some (.type "dict"):=Dk
theorem Qgv:bootBuiltins "enumerate"=some (.type "enumerate"):=Dk
theorem Qb{p:Addr}(h:H p=none)(o:HO):Same H (upd H p o):=fun b u q=>by rw[Qn (Qk q h)];exact q
theorem Same.tup{K:Fg}{H H':Hp}{a:Addr}{xs:List V}(e:Same H H')(h:SqT K H a xs):SqT K H' a xs:=by
 rcases h with(h | ⟨o,h⟩) | h
 .exact .inl (.inl (e _ _ h))
 .exact .inl (.inr ⟨o,e _ _ h⟩)
 .exact .inr h
theorem Ql(h:H a=some (.tup xs)):SqT K H a xs:=.inl (.inl h)
theorem Qg(h:H a=some (.lst xs)):SqL K H a xs:=.inl (.inl h)
theorem Qwq{g:TG}{D:Ends}(c:Nat->St->Hp->Prop)(r:c 0 σ H)(q:∀i σ H,i<=min xs.length ys.length->c i σ H->Sq K m1 H a xs/\Sq K m2 H b ys)
  (s:∀i x y σ H T,xs[i]?=some x->ys[i]?=some y->c i σ H->H T=none->g (.ref T) σ (upd H T (.tup [x,y])) fun σ2 H2=>tb { D with nx:=c (i+1),ct:=c (i+1),bk:=D.nx } σ2 H2) (hd:∀σ H,c (min xs.length ys.length) σ H->D.nx σ H) :
  ∃W:Nat->Nat->St->Hp->Prop,(∃m,W 0 m σ H)/\∀i m σ H,W i m σ H ->
   ((Itz K m1 m2 a b).stop i H/\D.nx σ H)\/((Itz K m1 m2 a b).go i H/\∃N:St->Hp->Prop,(∀σ' H',N σ' H'->∃m',m'<m/\W (i+1) m' σ' H')/\∀x H',(Itz K m1 m2 a b).yld i H x H'->g x σ H' fun σ2 H2=>tb { D with nx:=N,ct:=N,bk:=D.nx } σ2 H2):=by
 exists fun i m σ H=>m=min xs.length ys.length-i/\i<=min xs.length ys.length/\c i σ H,⟨_,rfl,jQf _,r⟩,?_
 rintro i m σ H ⟨rfl,w,p⟩
 obtain⟨h,d⟩:=q i σ H w p
 by_cases f:i<min xs.length ys.length
 .have o:i<xs.length:=Om
  have j:i<ys.length:=Om
  refine .inr ⟨⟨xs,ys,xs[i],ys[i],h,d,by simp[o],by simp[j]⟩,c (i+1),fun σ' H' k=>⟨min xs.length ys.length-(i+1),Om,rfl,f,k⟩,fun x H' y=>?_⟩
  obtain⟨T,u,v,rfl,l,rfl,n,t⟩:=y
  exact s i u v σ H T (n xs h) (t ys d) p l
 .have e:i=min xs.length ys.length:=Om
  subst e
  exact .inl ⟨⟨xs,ys,h,d,Om⟩,hd σ H p⟩
theorem Ys{g:TG}{Q:Addr->Hp->Prop}{D:Addr}(a:Nat->St->List V->Hp->Prop)
  (j:a 0 τ0 [] (upd H D (.lst []))) (f:∀i τ ys H,i<=n->a i τ ys H->H D=some (.lst ys)/\ys.length<sizeLine) (d:∀i τ ys H,i<n->a i τ ys H->J.go i H) (c:∀τ ys H,a n τ ys H->J.stop n H)
  (k:∀i τ ys H x H',i<n->a i τ ys H->J.yld i H x H'->g x τ H' fun σ2 H2=>tt σ2 H2 fun ok H3=>if ok=true then te σ2 H3 fun v H4=>H4 D=some (.lst ys)/\a (i+1) σ2 (ys++[v]) (upd H4 D (.lst (ys++[v])))else a (i+1) σ2 ys H3)
  (hd:∀τ ys H,a n τ ys H->Q D H) :
  LcW J D τ0 H g tt te Q:=by
 exists fun i m τ ys H=>m=n-i/\i<=n/\a i τ ys H,⟨n,by simp,jQf _,j⟩,?_
 rintro i m τ ys H ⟨rfl,o,p⟩
 obtain⟨l,h⟩:=f i τ ys H o p
 exists l,?_
 by_cases b:i<n
 .refine .inr ⟨d i τ ys H b p,h,fun τ v H=>a (i+1) τ (ys++[v]) (upd H D (.lst (ys++[v]))),fun τ H=>a (i+1) τ ys H,fun τ v H q=>⟨n-(i+1),Om,rfl,b,q⟩,fun τ H q=>⟨n-(i+1),Om,rfl,b,q⟩,fun x H' y=>k i τ ys H x H' b p y⟩
 .have e:i=n:=Om
  subst e
  exact .inl ⟨c τ ys H p,hd τ ys H p⟩
theorem Z5{g:TG}{Q:Addr->Hp->Prop}{D d:Addr}(us:List V)(j:us.length=n)(a:Nat->St->List V->Hp->Prop)(e:a 0 τ0 [] (upd H D (.lst [])))(b:∀i τ ys H,i<=n->a i τ ys H->(H D=some (.lst ys)/\ys.length<sizeLine)/\SqL K H d us)(f:∀i τ ys H x H',i<n->a i τ ys H->(Itl K d).yld i H x H'->g x τ H' fun σ2 H2=>tt σ2 H2 fun ok H3=>if ok=true then te σ2 H3 fun v H4=>H4 D=some (.lst ys)/\a (i+1) σ2 (ys++[v]) (upd H4 D (.lst (ys++[v])))else a (i+1) σ2 ys H3)
  (hd:∀τ ys H,a n τ ys H->Q D H) :LcW (Itl K d) D τ0 H g tt te Q:=Ys a e (fun i τ ys H c h=>(b i τ ys H c h).1) (fun i τ ys H c h=>⟨us,_,(b i τ ys H (Nat.le_of_lt c) h).2,gE Om⟩) (fun τ ys H h=>⟨us,(b n τ ys H (Nat.le_refl _) h).2,Om⟩) f hd
theorem Vals.of_get:∀{xs:List V} {us:List Value},xs.length=us.length->(∀(i:Nat) x u,xs[i]?=some x->us[i]?=some u->RelV x u)->Vals xs us
 |[],[],_,_=>.nil
 |x::xs,u::us,hl,h=>.cons (h 0 x u rfl rfl) (Vals.of_get (by simpa using hl) fun i y v b a=>h (i+1) y v (by simpa using b) (by simpa using a))
 |[],_::_,hl,_=>by simp at hl
 |_::_,[],hl,_=>by simp at hl
def insV(xs:List V)(k:Nat)(y:V):List V:=xs.take k++y::xs.drop k
theorem Vals.ins(r:Vals xs us)(a:RelV y u)(k:Nat):Vals (insV xs k y) (us.take k++u::us.drop k) :=
 (Vals.take k r).append (.cons a (Vals.drop k r))
theorem Qoe:MtM X "list.insert" (fun x vs H Q=>∃l xs k y,x=.ref l/\vs=[.int k,y]/\H l=some (.lst xs)/\0<=k/\k<=(xs.length:Int)/\xs.length<sizeLine/\Q .non (upd H l (.lst (insV xs k.toNat y)))):=by
 intro c s p H x vs v A Q I g i h
 obtain⟨l,xs,k,y,rfl,rfl,f,w,C,B,q⟩:=h
 cases g
 obtain⟨o,d,rfl,⟨t,rfl⟩,j⟩:=i.two
 obtain⟨z,a,n,r,u,e⟩:=I.lstM f
 have b:¬(!Builtin.List.listFitsIndex k)=true:=by
  have:Builtin.List.listFitsIndex k=true:=by
   unfold Builtin.List.listFitsIndex
   have:(sizeLine:Nat)=16777216:=Dc
   simp only[xV,decide_eq_true_eq]
   constructor<;>lia
  rw[this];simp
 refine call_meets F.slot_list_insert ⟨_,e,rfl⟩ F.entry_list_insert (F.args_list_insert_3 _ _ _) (PySem.AutoListH.list_insert_list_int_val_1 l a.toArray n k t d b (by rw[kQ];lia)) ⟨e,?_⟩
 exists .non,_,I.lset (its':=a.take k.toNat++d::a.drop k.toNat) f e ?_ (Vals.ins r j k.toNat) ?_,rfl,q
 .have m:(if k<0 then(k+((a.toArray.size:Nat):Int)).toNat else min k.toNat a.toArray.size)=k.toNat:=by
   rw[Y20 Om,kQ];lia
  simp only[m]
  apply Array.toList_inj.mp
  simp
  rw[yW (by simp)]
 .unfold insV
  rw[yQ,zZ,yY,jJc]
  lia
theorem Qen{p:Pos}(m:X.mg "range"=none)(i:PA X [e] ta)(g:qb (Gl X "range"))(l:qb (starEach [e] X.env=[(false,eval e X.env)])) :
  PE X (.Call (.Name "range" p) [e] [] pos) (fun σ H Q=>ta σ H fun vs H1=>∃n:Int,vs=[.int n]/\∀r,H1 r=none->Q (.ref r) (upd H1 r (.rng 0 n))):=by
 intro a s σ H Q I h
 refine Call_ (Vm I g m boot_range (PyProof.Rows.callWith_type1 (thn (i pos a s σ H _ I h) fun o f c=>?_) l rfl))
 obtain⟨vs,H1,d,j,k⟩:=c
 obtain⟨n,e,q⟩:=k
 subst e
 obtain⟨u,rfl,t,rfl⟩:=j.one
 refine call_range_1 ⟨.ref (qa f),upd H1 (qa f) (.rng 0 n),d.laid (fun b u e=>jV _ e) (jZ _) ⟨_,_,_,yJ _ rfl⟩,rfl,q _ (d.hok.fresh (jZ _))⟩
theorem Jw(w:X.calm=true):Jb X (.type "list") (fun xs H Q=>∃(r:Addr) (n:Int),xs=[.ref r]/\H r=some (.rng 0 n)/\0<=n/\n<=1000000/\∀l,H l=none->Q (.ref l) (upd H l (.lst ((List.range n.toNat).map fun i=>V.int (i:Nat))))):=by
 intro g s F H xs M Q I A h
 obtain⟨r,n,rfl,m,L,J,q⟩:=h
 obtain⟨u,rfl,C⟩:=A.one
 cases C
 obtain⟨t,u,v,e⟩:=I.hok r _ m
 have N:(sizeLine:Nat)=16777216:=Dc
 refine call_list_range (n:=n.toNat) (I.ok.hd w) e (small_one Om Om Om Om) (by rw[rangeSize_one];split<;>lia) Om fun G K b p z y d=>?_
 exists .ref (qa s),upd H (qa s) (.lst ((List.range n.toNat).map fun i=>V.int (i:Nat))),I.laid z (jZ _) ?_,rfl,q _ (I.hok.fresh (jZ _))
 exists by rw[jQ,xK];lia,b.toList,p,Vals.of_get (by rw[jQ,xK,xX,d.1]) fun i x u f B=>?_,by simpa using y
 obtain⟨k,rfl⟩:=d.2 i u (by simpa using B)
 rw[jY]at f
 obtain⟨j,o,rfl⟩:=zQ.mp f
 have E:=jW.mp o
 obtain⟨D,a⟩:=E
 rw[List.getElem_range]at a
 subst a
 exists k,by simp
theorem Qeo(a:X.K=K):IxR X (rIxL K):=by subst a;exact ix_list
theorem Zr(a:X.K=K):IxR X (rIxT K):=by subst a;exact Qm
theorem Qep(a:X.K=K):Jb X (.builtin "len") (fun xs H Q=>∃p ys,xs=[.ref p]/\(SqL K H p ys\/SqT K H p ys)/\Q (.int ys.length) H):=by subst a;exact Qj
theorem Qeq(a:X.K=K):OpR X (compareOp .NotIn) (rIn K true):=by subst a;exact Qgn
end L2
local macro_rules|`(tactic|exists"z")=>`(tactic|have h:=L2.X0 2000000)
namespace Nb
open PySem L2
structure Mg(mg:Z9):Prop where
 len:mg "len"=none
 min:mg "min"=none
 max:mg "max"=none
 sum:mg "sum"=none
 all:mg "all"=none
 any:mg "any"=none
 abs:mg "abs"=none
 isinstance:mg "isinstance"=none
 sorted:mg "sorted"=none
 range_:mg "range"=none
 zip_:mg "zip"=none
 tuple_:mg "tuple"=none
 list_:mg "list"=none
 int_:mg "int"=none
 bool_:mg "bool"=none
 dict_:mg "dict"=none
 enumerate_:mg "enumerate"=none
 reversed_:mg "reversed"=none
 ValueError_:mg "ValueError"=none
 set_:mg "set"=none
 str_:mg "str"=none
theorem Yk{D:Addr}(b:H D=some (.lst ys))(h:SqT K H a xs):SqT K (upd H D (.lst zs)) a xs:=by
 rcases h with(h | ⟨o,h⟩) | h
 .exact .inl (.inl (by rw[Qn (Qdg h b (by intro z;cases z))];exact h))
 .exact .inl (.inr ⟨o,by rw[Qn (Qdg h b (by intro z;cases z))];exact h⟩)
 .exact .inr h
def RowAt(K:Fg)(H:Hp)(t:Addr)(r:List Int×Int):Prop:=∃p,SqT K H t [.ref p,.int r.2]/\SqT K H p (r.1.map V.int)
theorem RowAt.same{t:Addr}(e:Same H H')(h:RowAt K H t r):RowAt K H' t r:=by obtain⟨p,a,b⟩:=h;exists p,e.tup a,e.tup b
theorem RowAt.upd{D t:Addr}(a:H D=some (.lst ys))(h:RowAt K H t r):RowAt K (upd H D (.lst zs)) t r:=by obtain⟨p,b,c⟩:=h;exists p,Yk a b,Yk a c
def RowsAre(K:Fg)(H:Hp):List V->List (List Int×Int)->Prop:=Paired fun v r=>∃t,v=.ref t/\RowAt K H t r
theorem RowsAre.imp{rs:List (List Int×Int)}(f:∀t r,RowAt K H t r->RowAt K H' t r)(h:RowsAre K H vs rs):RowsAre K H' vs rs:=by
 induction h with
 |nil=>exact .nil
 |cons r t ih=>obtain⟨a,e,z⟩:=r;exact .cons ⟨a,e,f _ _ z⟩ ih
theorem RowsAre.snoc{K:Fg}{H:Hp}{vs:List V}{rs:List (List Int×Int)}{t:Addr}{r:List Int×Int}(h:RowsAre K H vs rs)(z:RowAt K H t r):RowsAre K H (vs++[.ref t]) (rs++[r]):=by
 induction h with
 |nil=>exact .cons ⟨t,rfl,z⟩ .nil
 |cons q t ih=>exact .cons q ih
theorem RowsAre.get{rs:List (List Int×Int)}(h:RowsAre K H vs rs):∀{i:Nat} {v:V},vs[i]?=some v->∃t r,v=.ref t/\rs[i]?=some r/\RowAt K H t r:=by
 induction h with
 |nil=>intro i v e;simp at e
 |cons q t ih=>
  intro i v e
  cases i with
  |zero=>obtain⟨a,b,z⟩:=q;simp at e;subst e;exists a,_,b,rfl,z
  |succ i=>obtain⟨a,r,b,c,z⟩:=ih (i:=i) (v:=v) (by simpa using e);exists a,r,b,by simpa using c,z
theorem RowsAre.length{rs:List (List Int×Int)}(h:RowsAre K H vs rs):vs.length=rs.length:=Paired.length h
def ProbAt(K:Fg)(H:Hp)(t:Addr)(rs:List (List Int×Int))(cs:List Int):Prop:=∃l c vs,SqT K H t [.ref l,.ref c]/\SqL K H l vs/\RowsAre K H vs rs/\SqT K H c (cs.map V.int)
theorem ProbAt.same{t:Addr}{rs:List (List Int×Int)}(e:Same H H')(h:ProbAt K H t rs cs):ProbAt K H' t rs cs:=by
 obtain⟨l,c,g,f,b,a,d⟩:=h;exists l,c,g,e.tup f,e.seq b,a.imp fun _ _ z=>z.same e,e.tup d
theorem at0{x:V}:atI [x,y] 0=some x:=by rfl
theorem at1{x:V}:atI [x,y] 1=some y:=by rfl
theorem Zw{α:Type}{l:List α}{x:α}(h:l[i]?=some x):l.take (i+1)=l.take i++[x]:=by rw[List.take_succ,h];rfl
theorem Xu(h:(ns.map V.int)[i]?=some v):∃n,ns[i]?=some n/\v=.int n:=by
 rw[jY]at h
 cases e:ns[i]? with
 |none=>rw[e]at h;cases h
 |some n=>rw[e]at h;exists n,rfl,(Y5 h).symm
def rowD(r:List Int×Int):D:=.tup [.tup (r.1.map .int),.int r.2]
theorem Qwr(h:SqT K H a (ns.map V.int)):HasD K H (.ref a) (.tup (ns.map .int)):=by
 refine .tup h (by rw[jQ,jQ]) fun i v x d b=>?_
 obtain⟨n,c,rfl⟩:=Xu d
 rw[jY,c]at b
 cases b
 exact .int n
theorem pairD{w:V}{d e:D}(h:SqT K H a [v,w])(g:HasD K H v d)(f:HasD K H w e):HasD K H (.ref a) (.tup [d,e]):=by
 refine .tup h rfl fun i v x b c=>?_
 match i with
 |0=>simp at b c;subst b c;exact g
 |1=>simp at b c;subst b c;exact f
 |i+2=>simp at b
theorem RowAt.hasD{t:Addr}(h:RowAt K H t r):HasD K H (.ref t) (rowD r):=by
 obtain⟨p,a,b⟩:=h
 exact pairD a (Qwr b) (.int _)
theorem RowsAre.hasD{rs:List (List Int×Int)}(b:SqL K H l vs)(h:RowsAre K H vs rs):HasD K H (.ref l) (.lst (rs.map rowD)):=by
 refine .lst b (by rw[jQ];exact h.length) fun i v x e a=>?_
 obtain⟨t,r,rfl,d,c⟩:=h.get e
 rw[jY,d]at a
 cases a
 exact c.hasD
theorem Qgw(ns e:List Int):Alike (n+1) (.tup (ns.map .int)) (.tup (e.map .int)):=by
 refine .tup fun i x y d c=>?_
 rw[jY]at d c
 obtain⟨a,_,rfl⟩:=zQ.mp d
 obtain⟨b,_,rfl⟩:=zQ.mp c
 exact .int a b
theorem Qof{a b c d:D}(h:Alike n a c)(g:Alike n b d):Alike (n+1) (.tup [a,b]) (.tup [c,d]):=by
 refine .tup fun i x y e f=>?_
 match i with
 |0=>simp at e f;subst e f;exact h
 |1=>simp at e f;subst e f;exact g
 |i+2=>simp at e
theorem Qsp(r a:List Int×Int):Alike (n+2) (rowD r) (rowD a):=Qof (Qgw _ _) (.int _ _)
theorem Qgx(rs c:List (List Int×Int)):Alike (n+3) (.lst (rs.map rowD)) (.lst (c.map rowD)):=by
 refine .lst fun i x y e d=>?_
 rw[jY]at e d
 obtain⟨a,_,rfl⟩:=zQ.mp e
 obtain⟨b,_,rfl⟩:=zQ.mp d
 exact Qsp a b
def put(ns:List Int)(t:List Nat):Nat->List Int
 |0=>qg t.length 0
 |m+1=>(put ns t m).set (t.getD m 0) (ns.getD m 0)
theorem Qaa(ns:List Int)(t:List Nat):∀m,(put ns t m).length=t.length
 |0=>wQ
 |m+1=>by show((put ns t m).set _ _).length=_;rw[wW,Qaa ns t m]
structure IsTurn(n:Nat)(t:List Nat):Prop where
 perm:t.Perm (List.range n)
theorem IsTurn.length(h:IsTurn n t):t.length=n:=by rw[h.perm.length_eq,xK]
theorem IsTurn.nodup(h:IsTurn n t):t.Nodup:=h.perm.nodup_iff.mpr List.nodup_range
theorem IsTurn.mem(h:IsTurn n t){k:Nat}:k∈t↔k<n:=by rw[h.perm.mem_iff,wZ]
theorem IsTurn.lt(h:IsTurn n t){k:Nat}(e:t[i]?=some k):k<n:=h.mem.mp (kX e)
theorem Qws{l:List Nat}{k:Nat}(h:l[i]?=some k):l.getD i 0=k:=by simp[List.getD,h]
theorem Qsq(h:IsTurn n t)(k:Nat):IsTurn (n+1) (t.take k++n::t.drop k):=by
 refine⟨List.perm_middle.trans ?_⟩
 rw[List.take_append_drop,jYd]
 exact(h.perm.cons n).trans (List.perm_append_singleton n (List.range n)).symm
def tI(t:List Nat):List Int:=t.map (fun k:Nat=>(k:Int))
theorem Vn(t:List Nat):(tI t).length=t.length:=jQ _
theorem tI_get{k:Nat}(h:t[i]?=some k):(tI t)[i]?=some (k:Int):=by unfold tI;rw[jY,h];rfl
theorem Qwt{z:Int}(h:(tI t)[i]?=some z):∃k,t[i]?=some k/\z=(k:Int):=by
 unfold tI at h
 rw[jY]at h
 obtain⟨k,e,rfl⟩:=zQ.mp h
 exists k,e,rfl
theorem rep1(n:Nat)(x:V):(qg n [x]).flatten=qg n x:=by
 induction n with
 |zero=>rfl
 |succ n ih=>rw[jXf,kXf,ih,jXf];rfl
theorem Qaz{k:Nat}(h:k<n):ixN n (k:Int)=some k:=by
 unfold ixN
 rw[Y22 Om,Y22 Om]
 simp
theorem Yu{α:Type}{xs:List α}{k:Nat}{x:α}(h:xs[k]?=some x):atI xs (k:Int)=some x:=Zy h
theorem lstD(h:SqL K H a (ns.map V.int)):HasD K H (.ref a) (.lst (ns.map .int)):=by
 refine .lst h (by rw[jQ,jQ]) fun i v x d b=>?_
 obtain⟨n,c,rfl⟩:=Xu d
 rw[jY,c]at b
 cases b
 exact .int n
theorem Qkc(ns e:List Int):Alike (n+1) (.lst (ns.map .int)) (.lst (e.map .int)):=by
 refine .lst fun i x y d c=>?_
 rw[jY]at d c
 obtain⟨a,_,rfl⟩:=zQ.mp d
 obtain⟨b,_,rfl⟩:=zQ.mp c
 exact .int a b
theorem Qkd{k:Nat}{x:Int}(b:ns[i]?=some x)(a:t[i]?=some k):put ns t (i+1)=(put ns t i).set k x:=by
 show(put ns t i).set (t.getD i 0) (ns.getD i 0)=_
 rw[Qws a]
 simp[List.getD,b]
inductive Qke(K:Fg)(vs:List V)(H:Hp)(Q:VK)(E:XK):Prop|mk(r u:Addr)(row:List Int×Int)(n:Nat)(t:List Nat)(_:vs=[.ref r,.ref u])(_:RowAt K H r row)(_:SqL K H u ((tI t).map V.int))(_:IsTurn n t)(_:row.1.length=n)(_:n<=1000)(_:∀(r':Addr) (H':Hp),Same H H'->RowAt K H' r' (put row.1 t n,row.2)->Q (.ref r') H'):Qke K vs H Q E
end Nb
namespace L2
open PySem PySem.Spec PyProof.Rows
section
variable{κ:Type}[DecidableEq κ]
def valV(kvs:List (κ×V))(k:κ):Option V:=(kvs.find? fun kv=>decide (kv.1=k)).map (·.2)
def putK(kvs:List (κ×V))(k:κ)(v:V):List (κ×V) :=
 if (kvs.any fun kv=>decide (kv.1=k))=true then kvs.map (fun kv=>if kv.1=k then(kv.1,v)else kv)else kvs++[(k,v)]
theorem Zb{p:κ×V}{r:List (κ×V)}{k:κ}(e:p.1=k):valV (p::r) k=some p.2:=by simp[valV,jZf,e]
theorem Zc{p:κ×V}{r:List (κ×V)}{k:κ}(e:¬p.1=k):valV (p::r) k=valV r k:=by simp[valV,jZf,e]
theorem Va(k:κ):∀kvs:List (κ×V),(kvs.any fun kv=>decide (kv.1=k))=(valV kvs k).isSome
 |[]=>rfl
 |p::r=>by
  rw[yQd]
  by_cases e:p.1=k
  .simp only[Zb e,zX e,Bool.true_or,Option.isSome_some]
  .rw[Zc e,zJ e,Bool.false_or];exact Va k r
theorem Qkf(k j:κ)(y:V):∀kvs:List (κ×V),valV (kvs.map fun kv=>if kv.1=k then(kv.1,y)else kv) j=(valV kvs j).map fun x=>if j=k then y else x
 |[]=>rfl
 |p::r=>by
  have a:=Qkf k j y r
  rw[xZ]
  by_cases h:p.1=k
  .rw[Y22 h]
   by_cases e:p.1=j
   .rw[Zb (p:=(p.1,y)) e,Zb e,yYa,Y22 (e.symm.trans h)]
   .rw[Zc (p:=(p.1,y)) e,Zc e,a]
  .rw[Y20 h]
   by_cases e:p.1=j
   .rw[Zb (p:=p) e,Zb e,yYa,Y20 (fun z=>h (e.trans z))]
   .rw[Zc (p:=p) e,Zc e,a]
theorem Qgy(k j:κ)(y:V):∀kvs:List (κ×V),valV kvs k=none->valV (kvs++[(k,y)]) j=if j=k then some y else valV kvs j
 |[],_=>by
  by_cases e:k=j
  .rw[Y22 e.symm];exact Zb (p:=(k,y)) e
  .rw[Y20 (fun z=>e z.symm)];exact Zc (p:=(k,y)) e
 |p::r,hn=>by
  rw[List.cons_append]
  have a:¬p.1=k:=fun z=>by rw[Zb z]at hn;cases hn
  rw[Zc a]at hn
  have b:=Qgy k j y r hn
  by_cases e:p.1=j
  .rw[Zb e,Zb e,Y20 (fun z=>a (e.trans z))]
  .rw[Zc e,Zc e,b]
theorem Wa(kvs:List (κ×V))(k j:κ)(y:V):valV (putK kvs k y) j=if j=k then some y else valV kvs j:=by
 unfold putK
 by_cases a:(kvs.any fun b=>decide (b.1=k))=true
 .rw[Y22 a,Qkf]
  rw[Va]at a
  by_cases e:j=k
  .obtain⟨x,c⟩:=kQe.mp a
   rw[Y22 e,e,c,yYa,Y22 rfl]
  .rw[Y20 e]
   cases valV kvs j with
   |none=>rfl
   |some x=>rw[yYa,Y20 e]
 .rw[Y20 a]
  refine Qgy k j y kvs ?_
  rw[Va]at a
  cases q:valV kvs k with
  |none=>rfl
  |some x=>rw[q]at a;exact(a rfl).elim
theorem Zs(kvs:List (κ×V))(k:κ)(v:V):(putK kvs k v).length<=kvs.length+1:=by
 unfold putK
 split
 .rw[jQ];lia
 .rw[yQ,zZ,jKf];lia
theorem Qsr{kvs:List (κ×V)}{k:κ}(v:V)(h:valV kvs k=none):putK kvs k v=kvs++[(k,v)]:=by
 unfold putK
 rw[Va,h]
 exact Y20 Dc
theorem RelO.isSome_eq{o:Option V}{u:Option Value}(r:RelO o u):o.isSome=u.isSome:=by
 cases o with
 |none=>cases u with
  |none=>rfl
  |some _=>exact(show False from r).elim
 |some _=>cases u with
  |none=>exact(show False from r).elim
  |some _=>rfl
theorem RelO.getD{o:Option V}{u:Option Value}{d:V}{d':Value}(r:RelO o u)(a:RelV d d'):RelV (o.getD d) (u.getD d'):=by
 cases o with
 |none=>cases u with
  |none=>exact a
  |some _=>exact(show False from r).elim
 |some _=>cases u with
  |none=>exact(show False from r).elim
  |some _=>exact r
theorem KV.val{kvs:List (κ×V)}{vs:List (κ×Value)}(r:KV kvs vs)(k:κ):RelO (valV kvs k) (valueAt vs k):=by
 unfold KV at r
 induction r with
 |nil=>exact True.intro
 |@cons p q ps qs h t ih=>
  obtain⟨c,d⟩:=h
  by_cases e:p.1=k
  .have a:q.1=k:=c.symm.trans e
   have b:valueAt (q::qs) k=some q.2:=by simp[valueAt,jZf,a]
   rw[Zb e,b];exact d
  .have a:¬q.1=k:=fun z=>e (c.trans z)
   have b:valueAt (q::qs) k=valueAt qs k:=by simp[valueAt,jZf,a]
   rw[Zc e,b];exact ih
theorem KV.any{kvs:List (κ×V)}{vs:List (κ×Value)}(r:KV kvs vs)(k:κ):(kvs.any fun kv=>decide (kv.1=k))=vs.any fun kv=>decide (kv.1=k):=by
 unfold KV at r
 induction r with
 |nil=>rfl
 |cons h t ih=>rw[yQd,yQd,ih,h.1]
theorem KV.repl{kvs:List (κ×V)}{vs:List (κ×Value)}(r:KV kvs vs)(k:κ)(c:RelV y u) :
  KV (kvs.map fun kv=>if kv.1=k then(kv.1,y)else kv) (vs.map fun kv=>if kv.1=k then(kv.1,u)else kv):=by
 unfold KV at r⊢
 induction r with
 |nil=>exact .nil
 |@cons p q ps qs h t ih=>
  rw[xZ,xZ]
  refine .cons ?_ ih
  obtain⟨a,b⟩:=h
  by_cases e:p.1=k
  .rw[Y22 e,Y22 (a.symm.trans e)];exists a,c
  .rw[Y20 e,Y20 (fun z=>e (a.trans z))];exists a,b
theorem KV.put{kvs:List (κ×V)}{vs:List (κ×Value)}(r:KV kvs vs)(k:κ)(a:RelV y u):KV (putK kvs k y) (stored vs k u):=by
 unfold putK stored
 rw[r.any k]
 by_cases e:(vs.any fun b=>decide (b.1=k))=true
 .rw[Y22 e,Y22 e];exact r.repl k a
 .rw[Y20 e,Y20 e];exact Paired.snoc r ⟨rfl,a⟩
theorem KV.length{kvs:List (κ×V)}{vs:List (κ×Value)}(r:KV kvs vs):kvs.length=vs.length:=Paired.length r
end
theorem Qly{k:Key}(r:RelV (kV k) u):(Xw P w).is k u=true:=by
 cases k with
 |inl i=>obtain⟨t,e⟩:=(show ∃t,u=Value.int i t from r);subst e;exact Qbp P w i t
 |inr x=>obtain⟨t,e⟩:=(show ∃t,u=Value.str x t from r);subst e;exact Qih P w x t
theorem Qgz{P:Program}{w:World}:∀{ks:List Key} {us:List Value},Vals (ks.map kV) us->ItemsAre (Xw P w) ks us
 |[],_,r=>by rw[kYe]at r;cases r;exact .nil
 |k::ks,_,r=>by
  rw[xZ]at r
  cases r with
  |cons h t=>exact .cons (Qly h) (Qgz t)
abbrev KT(H:Hp):List (List Key×V)->List (List Key×Addr×Value)->Prop:=Paired fun p q=>p.1=q.1/\H q.2.1=some (.tup (p.1.map kV))/\RelV p.2 q.2.2
theorem KT.val{kvs:List (List Key×V)}{xs:List (List Key×Addr×Value)}(r:KT H kvs xs)(k:List Key):RelO (valV kvs k) ((atKey xs k).map (·.2)):=by
 induction r with
 |nil=>exact True.intro
 |@cons p q ps qs h t ih=>
  obtain⟨c,_,d⟩:=h
  by_cases e:p.1=k
  .have a:q.1=k:=c.symm.trans e
   have b:atKey (q::qs) k=some q.2:=by simp[atKey,jZf,a]
   rw[Zb e,b];exact d
  .have a:¬q.1=k:=fun z=>e (c.trans z)
   have b:atKey (q::qs) k=atKey qs k:=by simp[atKey,jZf,a]
   rw[Zc e,b];exact ih
theorem KT.repl{kvs:List (List Key×V)}{xs:List (List Key×Addr×Value)}(r:KT H kvs xs)(k:List Key)(d:RelV y u) :
  KT H (kvs.map fun kv=>if kv.1=k then(kv.1,y)else kv) (xs.map (putAt k u)):=by
 induction r with
 |nil=>exact .nil
 |@cons p q ps qs h t ih=>
  rw[xZ,xZ]
  refine .cons ?_ ih
  obtain⟨a,b,c⟩:=h
  unfold putAt
  by_cases e:p.1=k
  .rw[Y22 e,Y22 (a.symm.trans e)];exists a,b,d
  .rw[Y20 e,Y20 (fun z=>e (a.trans z))];exists a,b,c
theorem KT.put{kvs:List (List Key×V)}{xs:List (List Key×Addr×Value)}(r:KT H kvs xs)(k:List Key)(c:H b=some (.tup (k.map kV)))(a:RelV y u) :
  KT H (putK kvs k y) (storedH xs k b u):=by
 have e:(kvs.any fun d=>decide (d.1=k))=(atKey xs k).isSome:=by
  rw[Va,(r.val k).isSome_eq,Option.isSome_map]
 unfold putK storedH
 rw[e]
 by_cases q:(atKey xs k).isSome=true
 .rw[Y22 q,Y22 q];exact r.repl k a
 .rw[Y20 q,Y20 q];exact Paired.snoc r ⟨rfl,c,a⟩
theorem KT.keeps{kvs:List (List Key×V)}{xs:List (List Key×Addr×Value)}(r:KT H kvs xs)(a:∀b ys,H b=some (.tup ys)->H' b=some (.tup ys)):KT H' kvs xs :=
 Paired.mapP r fun _ _ z=>⟨z.1,a _ _ z.2.1,z.2.2⟩
theorem rd_of{u:HO}(ok:HOk P w H h)(e:Rd H a u):ObjOk P w H h a u:=e.ok ok
theorem Qlz(ok:HOk P w H h)(e:Rd H a (.dK kvs)):kvs.length<=sizeLine/\(a == sysModules)=false/\∃vs,KV kvs vs/\h.DictOf (Xw P w) a vs :=
 show ObjOk P w H h a (.dK kvs)from rd_of ok e
theorem Qog(ok:HOk P w H h)(e:H a=some (.dK kvs)):kvs.length<=sizeLine/\(a == sysModules)=false/\∃vs,KV kvs vs/\h.DictOf (Xw P w) a vs:=Qlz ok (.inl e)
theorem Qha{ks:List Key}(ok:HOk P w H h)(e:H a=some (.tup (ks.map kV))):(tupleKind (Xw P w)).is h ks a:=by
 obtain⟨_,b,r,o,f,d,n,c⟩:=(show ObjOk P w H h a (.tup (ks.map kV))from ok a _ e)
 exists o,b.toArray,n,f,d,c,by simpa using Qgz r
theorem Qma{kvs:List (List Key×V)}(ok:HOk P w H h)(e:Rd H a (.dT kvs)):kvs.length<=sizeLine/\(a == sysModules)=false /\
  ∃xs,KT H kvs xs/\h.DictOfH (tupleKind (Xw P w)) a xs:=by
 obtain⟨z,y,xs,r,o,c,i,j,d,b,g,f⟩:=(show ObjOk P w H h a (.dT kvs)from rd_of ok e)
 exists z,y,xs,r,o,c,i,j,d,b,g,fun x hx=>?_,f
 have all:∀{l:List (List Key×V)} {m:List (List Key×Addr×Value)},KT H l m->∀x∈m,(tupleKind (Xw P w)).is h x.1 x.2.1:=by
  intro l m q
  induction q with
  |nil=>intro x hx;exact nomatch hx
  |@cons p q ps qs hq t ih=>
   intro x hx
   rcases zK.mp hx with e | hx
   .subst e
    exact Qha ok (by rw[<-hq.1];exact hq.2.1)
   .exact ih x hx
 exact all r x hx
theorem dt_of{kvs:List (List Key×V)}(ok:HOk P w H h)(e:H a=some (.dT kvs)):kvs.length<=sizeLine/\(a == sysModules)=false /\
  ∃xs,KT H kvs xs/\h.DictOfH (tupleKind (Xw P w)) a xs:=Qma ok (.inl e)
def DGet(H:Hp)(a:Addr)(y:V)(r:Option V):Prop :=
 (∃kvs k,Rd H a (.dK kvs)/\y=kV k/\r=valV kvs k)\/∃kvs k b,Rd H a (.dT kvs)/\y=.ref b/\H b=some (.tup (k.map kV))/\r=valV kvs k
def DPut(H:Hp)(a:Addr)(y v:V)(H':Hp):Prop :=
 (∃kvs k,H a=some (.dK kvs)/\y=kV k/\kvs.length<sizeLine/\H'=upd H a (.dK (putK kvs k v))) \/
 ∃kvs k b,H a=some (.dT kvs)/\y=.ref b/\H b=some (.tup (k.map kV))/\kvs.length<sizeLine/\H'=upd H a (.dT (putK kvs k v))
theorem DGet.k{k:Key}(e:H a=some (.dK kvs)):DGet H a (kV k) (valV kvs k):=.inl ⟨kvs,k,.inl e,rfl,rfl⟩
theorem DPut.k{k:Key}(e:H a=some (.dK kvs))(b:kvs.length<sizeLine):DPut H a (kV k) v (upd H a (.dK (putK kvs k v))):=.inl ⟨kvs,k,e,rfl,b,rfl⟩
section
variable{r:Value}{o:Option V}
theorem Inv.big(I:qI H s):sysModules<(qa s):=by
 have h:mainGlobals<(qa s):=(I.mod.glob.keeps I.bk).lt
 exact Nat.lt_trans Dc h
theorem Qoh{Q:VP}(x:A.units+1<cLine)(I:qI H s)(g:DGet H a y (some v))(q:RelV y u)(h:∀w' s',qI H s'->RelV v w'->Q w' s') :
  qd X A (getItem (.ref a) u) Q E s:=by
 rcases g with⟨m,k,e,f,l⟩ | ⟨m,k,b,e,f,B,l⟩
 .subst f
  obtain⟨z,r,C,d,j⟩:=Qlz I.hok e
  obtain⟨w',n,c⟩:=RelO.some_of (v:=v) (o:=valueAt C k) (by rw[l];exact d.val k)
  exact wpAny_getItem_of (Qly q) j.mapOf n (h w' _ (I.tok _) c)
 .subst f
  cases(show u=Value.ref b from q)
  obtain⟨z,r,t,d,j⟩:=Qma I.hok e
  obtain⟨w',n,c⟩:=RelO.some_of (v:=v) (o:=(atKey t k).map (·.2)) (by rw[l];exact d.val k)
  obtain⟨p,D,i⟩:=zQ.mp n
  refine wpAny_getItem_heap (tupleKind_room_in1 x) (Qha I.hok B) j D ?_
  rw[i]
  exact h w' _ (I.tok _) c
theorem d_in{Q:VP}(p:A.units+1<cLine)(I:qI H s)(g:DGet H a y o)(m:RelV y u)(h:∀s',qI H s'->Q (.bool o.isSome) s') :
  qd X A (compareOp .In u (.ref a)) Q E s:=by
 rcases g with⟨j,k,e,d,l⟩ | ⟨j,k,b,e,d,n,l⟩
 .subst d
  obtain⟨z,f,t,c,i⟩:=Qlz I.hok e
  refine wpAny_in_of (Qly m) f i.mapOf ?_
  rw[<-(c.val k).isSome_eq,<-l]
  exact h _ (I.tok _)
 .subst d
  cases(show u=Value.ref b from m)
  obtain⟨z,f,r,c,i⟩:=Qma I.hok e
  refine wpAny_in_heap (tupleKind_room_in1 p) (Qha I.hok n) f i ?_
  have q:=(c.val k).isSome_eq
  rw[Option.isSome_map]at q
  rw[<-q,<-l]
  exact h _ (I.tok _)
theorem Qca{ob:HO}(I:qI H s)(d:Mut (H a))(f:Heap.SameBut a s.heap h')(he:∃q,h'.get? a=some q)(new:ObjOk X.prog X.w (upd H a ob) h' a ob) :
  qI (upd H a ob) { s with heap:=h',toks:=t' } :=
 I.write (x:=a) (e:=a) d (.inl rfl) (fun b q c z=>(f.2 b c).trans z) he new
theorem Qoi{vs:List (Key×Value)}(z:kvs.length<=sizeLine)(hd:(a == sysModules)=false)(b:KV kvs vs)(c:h'.DictOf (Xw P w) a vs) :
  ObjOk P w H' h' a (.dK kvs):=⟨z,hd,vs,b,c⟩
theorem Qoj{Q:Unit->Shared->Prop}(M:A.units+1<cLine)(I:qI H s)(g:DPut H a y v H')(C:RelV y u)(F:RelV v r)(h:∀s',qI H' s'->Q () s') :
  qd X A (setItem (.ref a) u r) Q E s:=by
 rcases g with⟨d,k,e,m,l,t⟩ | ⟨d,k,b,e,m,J,l,t⟩
 .subst m t
  obtain⟨z,n,U,f,x⟩:=Qog I.hok e
  have B:U.length<=sizeLine:=by rw[<-f.length];exact z
  have o:(putK d k v).length<=sizeLine:=by have:=Zs d k v;lia
  refine wpAny_setItem_pairs (hsz:=B) (Qly C) x fun D i p=>h _ ?_
  have N:∃q,D.get? a=some q:=let ⟨q,_,_,j,_⟩:=i;⟨q,j⟩
  exact Qca I (by rw[e];exact True.intro) p N (Qoi o n (f.put k F) i)
 .subst m t
  cases(show u=Value.ref b from C)
  obtain⟨z,n,T,f,x⟩:=dt_of I.hok e
  have B:T.length<=sizeLine:=by rw[<-Paired.length f];exact z
  have o:(putK d k v).length<=sizeLine:=by have:=Zs d k v;lia
  refine wpAny_setItem_heap (hsz:=B) (tupleKind_room_in1 M) (Qha I.hok J) x fun D i p=>h _ ?_
  obtain⟨q,R,P,j,S,K,O,_,L⟩:=i
  refine Qca I (by rw[e];exact True.intro) p ⟨q,j⟩ ⟨o,n,_,(f.put k J F).keeps fun c V G=>?_,q,R,P,j,S,K,O,L⟩
  rw[Qn (Qdg G e (fun z=>nomatch z))]
  exact G
end
def NoSl(i:Expr):Prop:=∀ov iv,subscripted i false ov iv=operate [ov,iv] (getItem ov iv)
theorem Qwu{prog:Program}{env:Env}{value slice:Expr}{id:String}{Q:VP}
  (f:typeLookup (.type T) "__getitem__"=pure (some (.builtin id))) (g:NoSl slice)
  (h:qe prog w A (eval value env) (fun o s₁=>qe prog w A (eval slice env) (fun i s₂=>s₂.TypeIs o T/\qe prog w A (getItem o i) Q E s₂) E s₁) E s) :
  qe prog w A (eval (.Subscript value slice pos) env) Q E s:=by
 refine Subscript_ (Y29 h (fun o s₁ c=>Y29 c (fun i s₂ a=>?_) fun _ _ x=>x) fun _ _ x=>x)
 obtain⟨e,a⟩:=a
 unfold subscriptTail
 refine jX ?_
 rw[getitemInPython_of_ne e.not_modules]
 refine jX (wpAny_specialOf e f ?_)
 have fin:qe prog w A (subscripted slice false o i) (fun r b=>qe prog w A (letTemporaryGo value o r >>= fun _=>pure r) Q E b) E s₂:=by
  rw[g o i]
  exact wpAny_operating (Y29 a (fun r b d=>jX (wpAny_letTemporaryGo (jK d))) fun _ _ x=>x)
 first
  |exact jK (jX fin)
  |exact jX (jK (jX fin))
  |exact jX fin
theorem Qip{o:Option V}(I:qI H s)(g:DGet H a y o):s.TypeIs (.ref a) "dict":=by
 rcases g with⟨c,k,e,_,_⟩ | ⟨c,k,b,e,_,_,_⟩
 .obtain⟨_,_,h,_,d⟩:=Qlz I.hok e
  exact d.typeIs
 .obtain⟨_,_,f,_,d⟩:=Qma I.hok e
  exact d.typeIs
def tDIn(ty td:TE):TE:=fun σ H Q=>ty σ H fun y H1=>td σ H1 fun x H2=>∃a o,x=.ref a/\DGet H2 a y o/\Q (.bl o.isSome) H2
def sDPut(td ty tv:TE):TS:=fun D σ H=>tv σ H fun v H1=>td σ H1 fun x H2=>ty σ H2 fun y H3=>∃a H4,x=.ref a/\DPut H3 a y v H4/\D.nx σ H4
section
variable{o i value:Expr}{td ty tv:TE}
theorem pc_din(l:X.A.units+1<cLine)(q:PE X i ty)(p:PE X o td):PC X .In i o (tDIn ty td):=by
 intro b s d H Q I h
 refine thn (q b s d H _ I h) fun iv s1 ⟨y,H1,I1,ry,q1⟩=>thn (p b s1 d H1 _ I1 q1) fun u t c=>?_
 obtain⟨x,r,m,e,a,f,n,g,j⟩:=c
 subst n
 obtain rfl:u=Value.ref a:=e
 exact d_in l m g ry fun v k=>⟨.bl f.isSome,r,k,rfl,j⟩
theorem Qok(l:X.A.units+1<cLine)(q:PE X o td)(t:PE X i ty)(hv:PE X value tv)(k:swapsWith value (some (.Subscript o i pos')) pos.line X.env=pure false) :
  PS X (.Assign [.Subscript o i pos'] value pos) (sDPut td ty tv):=by
 intro b s c H D I h
 refine wpAny_Assign_Subscript (thn (hv b s c H _ I h) fun r s1 ⟨v,H1,I1,rv,q1⟩=>thn (q b s1 c H1 _ I1 q1) fun u s2 ⟨x,H2,I2,rx,q2⟩=>thn (t b s2 c H2 _ I2 q2) fun B C d=>?_) k
 obtain⟨y,w,j,m,a,f,p,g,n⟩:=d
 subst p
 obtain rfl:u=Value.ref a:=rx
 exact Qoj l j g m rv fun z e=>⟨c,f,e,n⟩
end
theorem Qer(h:Heap)(a:sysModules<h.objs.size):ObjOk P w H (h.push { cls:=.type "dict",data:=.dict #[] }) h.objs.size (.dK []) :=
 ⟨jQf _,beq_eq_false_iff_ne.mpr (Ne.symm (zV a)),[],.nil,Heap.DictOf.new h⟩
def tDNewK:TE:=fun _ H Q=>∀p,H p=none->Q (.ref p) (upd H p (.dK []))
theorem Qss:PE X (.Dict [] [] pos) tDNewK:=fun b s c H Q I h=>
 wpAny_Dict_empty ⟨.ref (qa s),_,I.laid (a:=(qa s)) (o:=.dK []) (t':=s.toks) (fun _ _ q=>jV _ q) (jZ _) (Qer s.heap I.big),rfl,h _ (I.hok.fresh (jZ _))⟩
def Qol:List (TE×TE)->St->Hp->(List (V×V)->Hp->Prop)->Prop
 |[],_,H,Q=>Q [] H
 |(tk,tv)::r,σ,H,Q=>tk σ H fun x H1=>tv σ H1 fun y H2=>Qol r σ H2 fun ps H3=>Q ((x,y)::ps) H3
abbrev VV:List (V×V)->List (Value×Value)->Prop:=Paired fun p q=>RelV p.1 q.1/\RelV p.2 q.2
def PPs(X:Cx)(pos:Pos)(keys:List (Option Expr))(values:List Expr)(trs:List (TE×TE)):Prop :=
 ∀(pins:Z8) (s:Shared) (σ:St) (H:Hp) (Q:List (V×V)->Hp->Prop),qI H s->Qol trs σ H Q ->
  qd X X.A (evalPairs (pairTrees keys values X.env pos)) (fun vs s'=>∃ps H',qI H' s'/\VV ps vs/\Q ps H') X.xe s
theorem Qwv:PPs X pos [] [] []:=fun a s b H Q I h=>pairTrees_nil_walk ⟨[],H,I,.nil,h⟩
theorem Qst{k v:Expr}{ks:List (Option Expr)}{vs:List Expr}{tk tv:TE}{trs:List (TE×TE)}(c:PE X k tk)(hv:PE X v tv)(d:PPs X pos ks vs trs) :
  PPs X pos (some k::ks) (v::vs) ((tk,tv)::trs):=fun a s b H Q I h=>
 pairTrees_cons_walk (thn (c a s b H _ I h) fun u s1 ⟨x,H1,I1,rx,q1⟩=>thn (hv a s1 b H1 _ I1 q1) fun w2 s2 ⟨y,H2,I2,ry,q2⟩=>
  thn (d a s2 b H2 _ I2 q2) fun ws s3 ⟨ps,H3,I3,rel,q3⟩=>⟨(x,y)::ps,H3,I3,.cons ⟨rx,ry⟩ rel,q3⟩)
def Qaq(kvs more:List (Key×V)):List (Key×V):=more.foldl (fun acc kv=>putK acc kv.1 kv.2) kvs
theorem KV.merge:∀{more:List (Key×V)} {rs:List (Key×Value)} {kvs:List (Key×V)} {vs:List (Key×Value)},KV more rs->KV kvs vs->KV (Qaq kvs more) (merged vs rs):=by
 intro more rs kvs vs r
 unfold KV at r
 induction r generalizing kvs vs with
 |nil=>intro q;exact q
 |@cons p q ps qs h t ih=>
  intro a
  have e:KV (putK kvs p.1 p.2) (stored vs q.1 q.2):=by
   have:=a.put p.1 h.2
   rw[<-h.1];exact this
  exact ih e
theorem Wb:∀(more kvs:List (Key×V)),(Qaq kvs more).length<=kvs.length+more.length
 |[],kvs=>by show kvs.length<=kvs.length+0;lia
 |p::r,kvs=>by
  have a:=Wb r (putK kvs p.1 p.2)
  have b:=Zs kvs p.1 p.2
  show(Qaq (putK kvs p.1 p.2) r).length<=_
  rw[zZ];lia
theorem Qdp{P:Program}{w:World}:∀{kvs:List (Key×V)} {ws:List (Value×Value)},VV (kvs.map fun kv=>(kV kv.1,kv.2)) ws->∃rs,Carries (Xw P w) ws rs/\KV kvs rs
 |[],_,r=>by rw[kYe]at r;cases r;exists [],True.intro,.nil
 |p::kvs,_,r=>by
  rw[xZ]at r
  cases r with
  |@cons a b as bs h t=>
   obtain⟨rs,c,q⟩:=Qdp (P:=P) (w:=w) t
   obtain⟨e,d⟩:=b
   exists (p.1,d)::rs,⟨Qly h.1,rfl,c⟩,.cons ⟨rfl,h.2⟩ q
def tDisp(trs:List (TE×TE)):TE:=fun σ H Q=>∀p,H p=none->Qol trs σ (upd H p (.dK [])) fun ps H2=>H2 p=some (.dK [])/\∃kvs:List (Key×V),ps=kvs.map (fun kv=>(kV kv.1,kv.2))/\kvs.length<=15/\Q (.ref p) (upd H2 p (.dK (Qaq [] kvs)))
theorem Qww{keys:List (Option Expr)}{values:List Expr}{trs:List (TE×TE)}(h:PPs X pos keys values trs)(b:keys.all (·.isSome)=true)(y:keys.length=values.length)(G:keys≠[])
  (j:keys.length<=15):PE X (.Dict keys values pos) (tDisp trs):=by
 intro f s x H Q I q
 have p:=I.hok.fresh (jZ (qa s))
 have n:=I.laid (a:=(qa s)) (o:=.dK []) (h':=s.heap.push { cls:=.type "dict",data:=.dict #[] }) (t':=s.toks) (fun _ _ q=>jV _ q) (jZ _) (Qer s.heap I.big)
 refine wpAny_Dict_walk (knd:=Xw X.prog X.w) b y G j (thn (h f _ x _ _ n (q _ p)) fun O K i=>?_)
 obtain⟨M,N,l,k,e,d,J,L,u⟩:=i
 subst J
 obtain⟨m,c,rk⟩:=Qdp (P:=X.prog) (w:=X.w) k
 obtain⟨z,v,E,B,F⟩:=Qog l.hok e
 cases B
 exists m,c,F,fun h' g A=>⟨.ref (qa s),_,?_,rfl,u⟩
 have D:(Qaq [] d).length<=sizeLine:=by
  have C:=Wb d []
  rw[jKf]at C
  rw[sizeLine_eq];lia
 have r:∃q,h'.get? (qa s)=some q:=let ⟨q,_,_,hq,_⟩:=g;⟨q,hq⟩
 exact Qca l (by rw[e];exact True.intro) A r (Qoi D v (rk.merge .nil) g)
structure M1(X:Cx)(o:Expr)(m:Str)(apos:Pos)(e:Expr)(cpos:Pos):Prop where
 base:attributeBase o m X.env (eval o X.env)=eval o X.env
 few:((backTo cpos (starEach [e] X.env)).all (fun x=>!x.1)&&(backToKw cpos (keywordEach [] X.env)).all (fun x=>x.1.isSome)
  && decide (([e]:List Expr).length+([]:List Keyword).length+(if ([]:List Keyword).isEmpty then 0 else 1)<30))=true
 line:(apos.endLine == cpos.line)=true
 trees:backTo cpos (starEach [e] X.env)=[(false,eval e X.env)]
structure M2(X:Cx)(o:Expr)(m:Str)(apos:Pos)(e f:Expr)(cpos:Pos):Prop where
 base:attributeBase o m X.env (eval o X.env)=eval o X.env
 few:((backTo cpos (starEach [e,f] X.env)).all (fun x=>!x.1)&&(backToKw cpos (keywordEach [] X.env)).all (fun x=>x.1.isSome)
  && decide (([e,f]:List Expr).length+([]:List Keyword).length+(if ([]:List Keyword).isEmpty then 0 else 1)<30))=true
 line:(apos.endLine == cpos.line)=true
 trees:backTo cpos (starEach [e,f] X.env)=[(false,eval e X.env),(false,eval f X.env)]
def IsD(H:Hp)(a:Addr):Prop:=(∃kvs,Rd H a (.dK kvs))\/∃kvs,Rd H a (.dT kvs)
theorem isD_at(I:qI H s)(d:IsD H a) :
  s.TypeIs (.ref a) "dict"/\(∀b,Value.ref a=.ref b->∃ob,s.heap.get? b=some ob/\ob.dict=none)/\(a == sysModules)=false:=by
 rcases d with⟨h,e⟩ | ⟨h,e⟩
 .obtain⟨_,g,k,_,c⟩:=Qlz I.hok e
  exists c.typeIs,fun b q=>?_,g
  cases q
  obtain⟨ob,_,_,i,f,_⟩:=c
  exists ob,i,f.2.1
 .obtain⟨_,g,j,_,c⟩:=Qma I.hok e
  exists c.typeIs,fun b q=>?_,g
  cases q
  obtain⟨ob,_,_,i,f,_⟩:=c
  exists ob,i,f.2.1
section
variable{o:Option V}
theorem d_get1{Q:VP}(q:A.units+1<cLine)(I:qI H s)(g:DGet H a y o)(m:RelV y u)(h:∀w' s',qI H s'->RelV (o.getD .non) w'->Q w' s') :
  qd X A (call (.builtin "dict.get") [.ref a,u]) Q E s:=by
 rcases g with⟨j,k,e,f,l⟩ | ⟨j,k,b,e,f,p,l⟩
 .subst f
  obtain⟨z,i,r,c,d⟩:=Qlz I.hok e
  refine call_meetsIn PySem.F.slot_dict_get d.typeIs PySem.F.entry_dict_get (PySem.F.args_dict_get_2 _ _) (meets_dict_get (Xw X.prog X.w) a (Qly m) i) ⟨_,d.mapOf,h _ _ (I.tok _) ?_⟩
  rw[l]
  exact(c.val k).getD rfl
 .subst f
  cases(show u=Value.ref b from m)
  obtain⟨z,i,n,c,d⟩:=Qma I.hok e
  refine call_meetsIn PySem.F.slot_dict_get d.typeIs PySem.F.entry_dict_get (PySem.F.args_dict_get_2 _ _) (meetsH_dict_get (tupleKind (Xw X.prog X.w)) a b i) ⟨tupleKind_room_in1 q,k,n,Qha I.hok p,d,h _ _ (I.tok _) ?_⟩
  rw[l]
  exact(c.val k).getD rfl
end
def tDGet1(td ty:TE):TE:=fun σ H Q=>td σ H fun x H1=>∃a,x=.ref a/\IsD H1 a/\ty σ H1 fun y H2=>∃o,DGet H2 a y o/\Q (o.getD .non) H2
section
variable{o:Expr}{apos cpos:Pos}{td ty:TE}
theorem Qsu(v:X.A.units+1<cLine)(B:PE X o td)(he:PE X e ty)(m:M1 X o "get" apos e cpos):PE X (.Call (.Attribute o "get" apos) [e] [] cpos) (tDGet1 td ty):=by
 intro b s j H Q I h
 refine wpAny_Call_method m.base m.few m.line PySem.F.plainAttrs_dict PySem.F.slot_dict_get PySem.F.type_dict_get (thn (B b s j H _ I h) fun u l c=>?_)
 obtain⟨x,n,i,k,a,z,d,t⟩:=c
 subst z
 obtain rfl:u=Value.ref a:=k
 obtain⟨r,q,_⟩:=isD_at i d
 exists r,q,?_
 rw[m.trees]
 refine Calls.callWith_builtin rfl (Calls.evalArgs_plain (Calls.spliced_cons (thn (he b l j n _ i t) fun iv s2 ⟨y,H2,I2,ry,ov,g,q2⟩=>Calls.spliced_nil ?_)))
 exact d_get1 v I2 g ry fun C D p f=>⟨_,H2,p,f,q2⟩
end
end L2
namespace L2
open PySem PySem.Spec PyProof.Rows
theorem Qhb:typeLookup (.type "list") "keys"=pure none:=by rw[typeLookup_type,builtinLookup_eq_fast];kernel_rfl
section
variable{prog:Program}
theorem Qes{xs:Array Value}{k:Nat}{sl:Array (Option Value)}{Q:Option Value->Shared->Prop}(m:s.heap.get? a=some { cls:=.type "list",dict:=none,data:=.seq xs k,slots:=sl })(u:A.handled=none)
  (h:∀h' tk,(∀b o,s.heap.get? b=some o->h'.get? b=some o)->Q none { s with heap:=h',toks:=tk }):qe prog w A (getAttr? (.ref a) "keys") Q E s:=by
 obtain⟨v,g,d,tk,n⟩:=s
 have p:∀i,(⟨v,g,d,i,n⟩:Shared).TypeIs (.ref a) "list":=fun _=>⟨_,m,rfl⟩
 have y:=sub_AttributeError
 have C:=F.slot_list_getattribute.lookup
 have H:=F.slot_list_getattribute.bind (.ref a)
 have z:=am_list_getattr_none
 have c:(["__module__","__name__","__qualname__","__doc__","__annotations__"]:List Str).contains "keys"=false:=Dk
 unfold getAttr? getAttrBy? getAttrBy
 repeat (any_goals (first | assumption | exact p _ | ((with_reducible show wpAny _ _ (call (Value.builtin "list.__getattribute__") _ _) _ _ _);refine call_meets F.slot_list_getattribute (p _) am_entry_list_getattribute (F.args_list_getattribute_2 _ _) (meets_getattribute_miss_list a xs k sl "keys" _ Qhb c Dk) ⟨m,u,fun h' i e j=>?_⟩) | wp_step))
 have f:=j.of
 obtain⟨⟨x,B,D,q⟩,G,r,l,_,_⟩:=f.there
 simp only at l
 subst l
 have t:∀tk2,(⟨h',g,d,tk2,n⟩:Shared).TypeIs (.ref e) "AttributeError":=fun _=>⟨_,r,rfl⟩
 show wpAny _ _ (getattributeRaised _ _ _ _ _ _ _) _ _ _
 unfold getattributeRaised
 repeat (any_goals (first | assumption | exact t _ | wp_step))
 all_goals exact h _ _ f.keeps
end
def Qhc:entryFor table "dict.update.loop"=some Builtin.«dict.update.loop»:=entryFor_of_tree (by kernel_rfl)
theorem Wc:plainId "dict.update.loop"=true:=Dk
def PairsAre(K:Fg)(H:Hp):List V->List (Int×V)->Prop:=Paired fun v p=>∃t,v=.ref t/\SqT K H t [.int p.1,p.2]
theorem PairsAre.get(h:PairsAre K H vs ps):∀{i:Nat} {v:V},vs[i]?=some v->∃t p,v=.ref t/\ps[i]?=some p/\SqT K H t [.int p.1,p.2]:=by
 induction h with
 |nil=>intro i v e;simp at e
 |cons q t ih=>
  intro i v e
  cases i with
  |zero=>obtain⟨a,b,z⟩:=q;simp at e;subst e;exists a,_,b,rfl,z
  |succ i=>obtain⟨a,r,b,c,z⟩:=ih (i:=i) (v:=v) (by simpa using e);exists a,r,b,by simpa using c,z
theorem PairsAre.imp(f:∀t xs,SqT K H t xs->SqT K H' t xs)(h:PairsAre K H vs ps):PairsAre K H' vs ps:=by
 induction h with
 |nil=>exact .nil
 |cons r t ih=>obtain⟨a,e,z⟩:=r;exact .cons ⟨a,e,f _ _ z⟩ ih
theorem PairsAre.length(h:PairsAre K H vs ps):vs.length=ps.length:=Paired.length h
def Yn(ps:List (Int×V)):List (Key×V):=ps.foldl (fun d p=>putK d (Sum.inl p.1) p.2) []
theorem Qhd{p:Int×V}(h:ps[i]?=some p):Yn (ps.take (i+1))=putK (Yn (ps.take i)) (Sum.inl p.1) p.2:=by
 unfold Yn
 rw[List.take_succ,h,jJf]
 rfl
theorem Qiq(ps:List (Int×V)):(Yn ps).length<=ps.length:=by
 have:∀(l:List (Int×V)) (d:List (Key×V)),(l.foldl (fun d p=>putK d (Sum.inl p.1) p.2) d).length<=d.length+l.length:=by
  intro l
  induction l with
  |nil=>intro d;simp
  |cons p r ih=>intro d;have:=ih (putK d (Sum.inl p.1) p.2);have a:=Zs d (Sum.inl p.1:Key) p.2;simp only[kXd,zZ]at *;lia
 exact jZa (this ps []) (by simp)
theorem Qsv{d:Addr}{R:Result->Shared->Prop}(hh:A.handled=none)(hd:H d=none)(Q:SqL X.K H l vs)(N:PairsAre X.K H vs ps)(hz:ps.length<sizeLine)
  (hR:∀s',qI (upd H d (.dK (Yn ps))) s'->R (.ok (.ret .none)) s') :
  ∀(k i:Nat) (s:Shared),ps.length-i=k->i<=ps.length->qI (upd H d (.dK (Yn (ps.take i)))) s->s.heap.IsListIter it l i->FpOk X pins (upd H d (.dK (Yn (ps.take i)))) it ->
   codeAny (model X.prog X.w) A (.builtin "dict.update.loop" ⟨[.ref d,.ref it,rawInt i,.none],[]⟩) R s:=by
 intro k
 induction k with
 |zero=>
  intro i s hk hi I st f
  have P:i=ps.length:=Om
  subst P
  rw[wV]at I f
  have B:Same H (upd H d (.dK (Yn ps))):=Qb hd _
  obtain⟨O,r,p,_⟩:=I.list (B.seq Q)
  have lv:=N.length
  have lr:=r.length
  refine Y28 Qhc ?_
  rw[Around.under_plainId Wc _]
  show wpAny _ A.in1 (pyNext (.ref it) >>= _) _ _ s
  refine jX (wpAny_pyNext_list_end (A:=A.in1) hh st p.isList (by simp;lia) fun J eb=>?_)
  refine jX (jK (jK ?_))
  exact hR _ (I.turned (t':=s.toks) (fun b o E e=>eb b o E e) f.1 f.2.1 f.2.2.2.1 f.2.2.2.2.1 f.2.2.2.2.2)
 |succ k ih=>
  intro i s hk hi I st f
  have B:Same H (upd H d (.dK (Yn (ps.take i)))):=Qb hd _
  obtain⟨O,r,p,_⟩:=I.list (B.seq Q)
  have lv:=N.length
  have m:i<vs.length:=Om
  obtain⟨t,c,ev,ep,hT⟩:=N.get (gE m)
  obtain⟨u,hu,U⟩:=r.get (gE m)
  rw[ev]at U
  cases U
  refine Y28 Qhc ?_
  rw[Around.under_plainId Wc _]
  show wpAny _ A.in1 (pyNext (.ref it) >>= _) _ _ s
  refine jX (wpAny_pyNext_list_item st p.isList (x:=.ref t) (by simpa using hu) fun J G sb=>?_)
  have C:qI (upd H d (.dK (Yn (ps.take i)))) { s with heap:=J }:=I.turned (t':=s.toks) (fun b o E e=>(sb.2 b E).trans e) f.1 f.2.1 f.2.2.2.1 f.2.2.2.2.1 f.2.2.2.2.2
  obtain⟨V,r2,⟨ot,Z,ct,nt,dt⟩,_⟩:=C.tuple (B.tup hT)
  obtain⟨u1,S,rfl,⟨g,rfl⟩,F⟩:=r2.two
  refine jX (Y30 ?_)
  refine jX (wpAny_tryCatch ?_)
  unfold Builtin.Dict.pairItems
  refine jX (wpAny_typeOf (T:="tuple") ⟨ot,Z,ct⟩ ?_)
  rw[Y22 (by simp)]
  refine jX (wpAny_seqItems Z dt (jK ?_))
  show wpAny _ _ (holding [Value.int c.1 g,S] (dictSet d (Value.int c.1 g) S)) _ _ _
  obtain⟨z,M,kv,y,dd⟩:=Qog C.hok (upd_same (H:=H) (a:=d) (o:=.dK (Yn (ps.take i))))
  have l1:=Qiq (ps.take i)
  rw[yY]at l1
  have D:kv.length<=sizeLine:=by rw[<-y.length];exact z
  refine Y30 (wpAny_dictSet_pairs (hsz:=D) (knd:=Xw X.prog X.w) (k:=(Sum.inl c.1:Key)) (Qbp _ _ _ _) dd fun W n j=>?_)
  have L:∃q,W.get? d=some q:=let ⟨q,_,_,hq,_⟩:=n;⟨q,hq⟩
  have l2:=Zs (Yn (ps.take i)) (Sum.inl c.1:Key) c.2
  have Y:qI (upd (upd H d (.dK (Yn (ps.take i)))) d (.dK (putK (Yn (ps.take i)) (Sum.inl c.1) c.2))) { s with heap:=W,toks:=s.toks+1 } :=
   Qca (s:={ s with heap:=J }) C (by rw[upd_same];exact True.intro) j L (Qoi Om M (y.put _ F) n)
  rw[upd_upd,<-Qhd ep]at Y
  have v:it≠d:=fun e=>by have:=f.1;rw[e,upd_same]at this;cases this
  refine jK ⟨kZf Wc _,?_⟩
  have P:rawInt ((i:Int)+1)=rawInt ((i+1:Nat):Int):=by push_cast;rfl
  rw[P]
  refine ih (i+1) _ Om Om Y (G.at fun o e=>j.extBut _ _ v e) ⟨?_,f.2⟩
  have:=f.1
  rw[Qn v]at this⊢
  exact this
theorem Qhe(y:X.calm=true):Jb X (.type "dict") (fun xs H Q=>∃(l:Addr) (vs:List V) (ps:List (Int×V)),xs=[.ref l]/\SqL X.K H l vs/\PairsAre X.K H vs ps/\ps.length<sizeLine/\∀d,H d=none->Q (.ref d) (upd H d (.dK (Yn ps)))):=by
 intro pins s σ H xs us Q I O h
 obtain⟨l,vs,ps,rfl,v,W,Z,q⟩:=h
 obtain⟨u,rfl,R⟩:=O.one
 cases R
 refine callType_codes (Q₁:=fun g D=>g=.ref (qa s)/\D={ s with heap:=s.heap.push { cls:=.type "dict",data:=.dict #[] } }) F.kt_called_dict (F.kt_typeCall_dict_1 _) F.entry_dict_init (kt_code_dict_new _ ⟨rfl,rfl⟩) ?_
 rintro g D ⟨rfl,rfl⟩
 have p:H (qa s)=none:=I.hok.fresh (jZ _)
 have k:qI (upd H (qa s) (.dK [])) { s with heap:=s.heap.push { cls:=.type "dict",data:=.dict #[] } }:=I.laid (t':=s.toks) (fun _ _ q=>jV _ q) (jZ _) (Qer s.heap I.big)
 have x:Same H (upd H (qa s) (.dK [])):=Qb p _
 obtain⟨z,U,kv,aa,G⟩:=Qog k.hok (upd_same (H:=H) (a:=(qa s)) (o:=.dK []))
 exists G.typeIs,F.args_dict_init_2 _ _,?_
 unfold Builtin.«dict.__init__»
 refine jX ?_
 unfold Builtin.Dict.selfAndRest
 refine jX (wpAny_notOrdered_dict G.typeIs ?_)
 show wpAny _ _ (pure ((qa s),[Value.ref l])) _ _ _
 refine jK ?_
 show wpAny _ _ (Builtin.Dict.updateFrom "dict.__init__" (qa s) (.ref l) [] .none) _ _ _
 unfold Builtin.Dict.updateFrom
 obtain⟨Y,r,⟨o,n,e,c,E,B⟩,_⟩:=k.list (x.seq v)
 obtain⟨cls,L,M,S⟩:=o
 simp only at c E B
 subst c E B
 refine jX (wpAny_typeOf (T:="list") ⟨_,e,rfl⟩ ?_)
 rw[Y22 Dc]
 refine jX (Qes (s:={ s with heap:=s.heap.push { cls:=.type "dict",data:=.dict #[] } }) e (by exact I.ok.hd y) fun i f m=>?_)
 have j:qI (upd H (qa s) (.dK [])) { s with heap:=i,toks:=f }:=k.kept m
 rw[Y22 (by rfl)]
 refine jX (wpAny_rule (jX ?_))
 obtain⟨C,r2,N,_⟩:=j.list (x.seq v)
 refine wpAny_pyIter_list (s:={ s with heap:=i,toks:=f }) N.isList ?_
 refine jK ⟨kZf Wc _,?_⟩
 have P:qI (upd H (qa s) (.dK [])) { s with heap:=i.push { cls:=.type "list_iterator",data:=.fields #[.ref l,.int 0 0] },toks:=f }:=j.kept (t':=f) fun b o e=>jV _ e
 have w:=j.hok.fresh (a:=i.objs.size) (jZ _)
 refine Qsv (X:=X) (pins:=pins) (σ:=σ) (H:=H) (vs:=vs) (ps:=ps) (A:=X.A.in1) (by exact I.ok.hd y) p v W Z (fun s' J=>⟨rfl,.ref (qa s),_,J,rfl,q _ p⟩) ps.length 0 _ Om (jQf _) P ⟨_,yJ _ rfl,rfl,rfl⟩ (j.fpOk (jZ _) w)
section
variable{e:Addr}{st:Nat->Heap->Prop}{src:List Value->Heap->Prop}{xs:List Value}{old:Value}
theorem Qet{x:Value}{Q:Option Value->Shared->Prop}(U:Drw P w it l st src)(O:IsEnum s.heap e it i old)(hI:st i s.heap)(hl:src xs s.heap)(hx:xs[i]?=some x)(f:e≠it)
  (hQ:∀h',IsEnumOut h' e it ((i:Int)+1) x (qa s)->st (i+1) h'->h'.get? (qa s)=some { cls:=.type "tuple",data:=.seq #[.int i s.toks,x] } ->
   (∀b o,b≠e->b≠it->s.heap.get? b=some o->h'.get? b=some o)->Q (some (.ref (qa s))) { s with heap:=h',toks:=s.toks+1 }):qe P w A (pyNext (.ref e)) Q E s:=by
 have M:s.TypeIs (.ref e) "enumerate":=⟨_,O,rfl⟩
 unfold pyNext
 refine jX (wpAny_attempt (wpAny_callSpecial?_slot (name:=Str.ofString "__next__") M F.slot_enumerate_next (Y25 F.slot_enumerate_next M F.entry_enumerate_next ?_ (F.args_enumerate_next_1 _))))
 obtain⟨p,g,d,a,m⟩:=s
 show wpAny _ _ (field (.ref e) 2 >>= _) _ _ _
 refine jX (Y23 O rfl (x:=.ref it) rfl ?_)
 refine jX (U.item _ _ ⟨p,g,d,a,m⟩ i xs x _ hI hl hx fun D L H=>?_)
 replace H:Heap.SameBut it p D:=H
 have r:IsEnum D e it i old:=(H.2 e f).trans O
 show wpAny _ _ (field (.ref e) 3 >>= _) _ _ ⟨D,g,d,a,m⟩
 refine jX (Y23 r rfl (x:=rawInt i) rfl ?_)
 show wpAny _ _ (field (.ref e) 4 >>= _) _ _ ⟨D,g,d,a,m⟩
 refine jX (Y23 r rfl (x:=.none) rfl ?_)
 show wpAny _ _ (mkInt i >>= _) _ _ ⟨D,g,d,a,m⟩
 refine jX (wpAny_mkInt ?_)
 show wpAny _ _ (setField (.ref e) 3 (rawInt ((i:Int)+1)) >>= _) _ _ ⟨D,g,d,a+1,m⟩
 refine jX (Y24 r (by simp) fun R t I=>?_)
 replace I:Heap.SameBut e D R:=I
 replace t:IsEnum R e it ((i:Int)+1) old:=t
 show wpAny _ _ (setField (.ref e) 4 .none >>= _) _ _ ⟨R,g,d,a+1,m⟩
 refine jX (Y24 t (by simp) fun J n K=>?_)
 replace K:Heap.SameBut e R J:=K
 replace n:IsEnum J e it ((i:Int)+1) old:=n
 show wpAny _ _ (newTuple [.int i a,x] >>= _) _ _ ⟨J,g,d,a+1,m⟩
 refine jX (wpAny_newTuple ?_)
 have j:IsEnum (J.push { cls:=.type "tuple",data:=.seq #[.int i a,x] }) e it ((i:Int)+1) old:=jV _ n
 generalize k:J.push { cls:=.type "tuple",data:=.seq #[.int i a,x] }=g4 at j
 have v:J.objs.size=p.objs.size:=by rw[K.1,I.1,H.1]
 have ab:e<p.objs.size:=yK O
 have X:g4.get? p.objs.size=some { cls:=.type "tuple",data:=.seq #[.int i a,x] }:=by rw[<-k,<-v];exact yJ _ rfl
 have V:∀b o,b≠e->b≠it->p.get? b=some o->g4.get? b=some o:=fun b o c B u=>by
  rw[<-k];exact jV _ (K.extBut b o c (I.extBut b o c (H.extBut b o B u)))
 have aa:st (i+1) g4:=U.keep _ _ _ L fun q z=>by rw[<-k];exact jV _ (K.extBut _ _ f.symm (I.extBut _ _ f.symm z))
 show wpAny _ _ (Builtin.SmallTypes.ownedTupleIsFree (.ref e) >>= _) _ _ ⟨g4,g,d,a+1,m⟩
 rw[v]
 clear k n K t I r H L v
 refine jX ?_
 unfold Builtin.SmallTypes.ownedTupleIsFree
 refine jX (Y23 j rfl (x:=.none) rfl (jK ?_))
 simp only[if_true]
 refine jX (wpAny_rule (jX (Y23 j rfl (x:=old) rfl (jX (Y24 j (by simp) fun S y Z=>?_)))))
 replace Z:Heap.SameBut e g4 S:=Z
 replace y:IsEnum S e it ((i:Int)+1) x:=y
 show wpAny _ _ (Builtin.SmallTypes.ownedTupleHandOut (.ref e) (.ref p.objs.size) >>= _) _ _ ⟨S,g,d,a+1,m⟩
 refine jX ?_
 unfold Builtin.SmallTypes.ownedTupleHandOut
 refine jX (Y24 y (by simp) fun g6 C T=>?_)
 replace T:Heap.SameBut e S g6:=T
 replace C:IsEnumOut g6 e it ((i:Int)+1) x p.objs.size:=C
 refine Y24 C (by simp) fun N G Y=>?_
 replace Y:Heap.SameBut e g6 N:=Y
 replace G:IsEnumOut N e it ((i:Int)+1) x p.objs.size:=G
 have W:∀b o,b≠e->g4.get? b=some o->N.get? b=some o:=fun b o u z=>Y.extBut b o u (T.extBut b o u (Z.extBut b o u z))
 refine jX (wpAny_letGo (jK ⟨_,rfl,jK (hQ N G ?_ ?_ ?_)⟩))
 .exact U.keep _ _ _ aa fun q z=>W _ _ f.symm z
 .exact W _ _ (kKc ab) X
 .exact fun b o c B u=>W b o c (V b o c B u)
theorem Qhf{Q:Option Value->Shared->Prop}(k:A.handled=none)(p:Drw P w it l st src)(d:IsEnum s.heap e it i old)(g:st i s.heap)(m:src xs s.heap)(r:xs[i]?=none)
  (f:∀h',Heap.ExtBut it s.heap h'->Q none { s with heap:=h' }):qe P w A (pyNext (.ref e)) Q E s:=by
 have a:s.TypeIs (.ref e) "enumerate":=⟨_,d,rfl⟩
 unfold pyNext
 refine jX (wpAny_attempt (wpAny_callSpecial?_slot (name:=Str.ofString "__next__") a F.slot_enumerate_next (Y25 F.slot_enumerate_next a F.entry_enumerate_next ?_ (F.args_enumerate_next_1 _))))
 show wpAny _ _ (field (.ref e) 2 >>= _) _ _ _
 refine jX (Y23 d rfl (x:=.ref it) rfl ?_)
 refine jX (p.done _ _ s i xs _ k g m r fun h' x n c=>?_)
 obtain⟨o,q,j⟩:=c
 refine jX (wpAny_isInstance (T:="StopIteration") (b:=true) ⟨o,q,j⟩ isSubtype_stop (jK (f _ n)))
end
theorem Qmb{n:String}{p:Heap->Prop}(I:Itr0 n l p) :
  Meets (Builtin.«enumerate.__new__» ⟨[.type "enumerate",.ref l],[]⟩) (fun _ R s=>p s.heap/\R (.ok (.ret (.ref (s.heap.push (Vj n l)).objs.size))) { s with heap:=(s.heap.push (Vj n l)).push { cls:=.type "enumerate",data:=.fields #[.none,.bool false,.ref (qa s),rawInt 0,.none,.none] } }) :=
 .of_wp fun a w A R s h=>by
  obtain⟨k,g,d,i,f⟩:=s
  obtain⟨q,h⟩:=h
  have e:=sub_enumerate
  have b:=fun(A:Around) (E:VP) (Q:VP)=>I.go a w A E ⟨k,g,d,i,f⟩ Q q
  wp_walk
  refine wpAny_stack_any fun j=>jK ?_
  split
  .rename_i c _ _ _ _ _
   cases(c == Value.type "enumerate")
   .wp_walk using b _ _ _
    exists 4,h
   .wp_walk using b _ _ _
    exists 4,h
  .wp_walk using b _ _ _
   exists 4,h
def Ite(K:Fg)(m:Bool)(a:Addr):It :=
  ⟨fun i H=>∃xs x,Sq K m H a xs/\xs[i]?=some x,
   fun i H v H'=>∃T x,v=.ref T/\H T=none/\H'=upd H T (.tup [.int (i:Nat),x])/\(∀xs,Sq K m H a xs->xs[i]?=some x),
   fun i H=>∃xs,Sq K m H a xs/\xs.length<=i⟩
def eTn(m:Bool)(e it a:Addr)(i:Nat)(h:Heap):Prop:=(∃old,IsEnum h e it i old)/\itSt m it a i h
theorem Qom{m:Bool}{e:Addr}(j:e≠it)(ab:a≠e)(ac:a≠it) :
  Turn P w K (.Tuple es kk tp) (Ite K m a) [e,it] e (eTn m e it a) where
 mem:=by simp
 obj:=fun i h st c d=>by
  obtain⟨⟨old,n⟩,g⟩:=st
  simp only[zK,jQb,or_false]at d
  rcases d with rfl | rfl
  .exact⟨_,n,fun v z=>by cases z⟩
  .exact(Yz (P:=P) (w:=w) m c a).obj i h g
 keep:=fun i h h' st k=>by
  obtain⟨⟨old,n⟩,g⟩:=st
  exists ⟨old,k e (by simp) _ n⟩,(Yz (P:=P) (w:=w) m it a).keep i h h' g (k it (by simp))
 item:=by
  intro X L Q S d i f s J H E I p st T
  subst L Q S
  obtain⟨xs,x,r,M⟩:=T
  obtain⟨F,O,D,z1⟩:=I.sq r
  obtain⟨v1,e1,B⟩:=O.get M
  obtain⟨⟨old,u⟩,y⟩:=st
  refine Qet (Yz m it a) u y D e1 j fun h' W V Z a4=>⟨_,rfl,?_⟩
  have kk:∀c q,c∉[e,it]->s.heap.get? c=some q->h'.get? c=some q:=fun c q d e=>by
   simp only[zK,jQb,or_false,not_or]at d
   exact a4 c q d.1 d.2 e
  have I1:Inv X f J (upd H (qa s) (.tup [.int (i:Nat),x])) { s with heap:=h' }:=I.tupNew (ch:=[e,it]) (its:=[.int i s.toks,v1]) (jZ _) (.cons ⟨_,rfl⟩ (.cons B .nil)) (Z1 2) Z p kk (fun c d=>by
   simp only[zK,jQb,or_false]at d
   rcases d with rfl | rfl
   .exact⟨_,W⟩
   .obtain⟨q,z,_⟩:=(Yz (P:=X.prog) (w:=X.w) m c a).obj _ _ V;exists q,z)
  refine wpAny_letOwnedTupleGo_enum (s:={ s with heap:=h',toks:=s.toks+1 }) W fun g g1 Y=>?_
  obtain⟨U,A,f2,R,G,C⟩:=p e (by simp)
  have l:e<(qa s):=yK u
  have I2:Inv X f J (upd H (qa s) (.tup [.int (i:Nat),x])) { s with heap:=g,toks:=s.toks+1 }:=I1.turned (h':=g) (t':=s.toks+1) (fun c q d z=>Y.extBut c q d z) (by rw[Qn (zV l)];exact U) A R G C
  exists .ref (qa s),_,I2,rfl,⟨_,x,rfl,I.hok.fresh (jZ _),rfl,fun aa hq=>by rw[I.sq_inj hq r];exact M⟩,⟨⟨_,by exact_mod_cast g1⟩,(Yz (P:=X.prog) (w:=X.w) m it a).keep _ _ _ V fun q z=>Y.extBut _ _ j.symm z⟩,fun c d=>?_
  have N:c≠(qa s):=by
   simp only[zK,jQb,or_false]at d
   rcases d with rfl | rfl
   .exact zV l
   .obtain⟨q,z,_⟩:=(Yz (P:=X.prog) (w:=X.w) m c a).obj _ _ y;exact zV (yK z)
  rw[Qn N]
  exact(p c d).1
 done:=by
  intro X L Q S d i f s J H E I p st T
  subst L Q S
  obtain⟨xs,r,M⟩:=T
  obtain⟨F,O,D,z1⟩:=I.sq r
  obtain⟨⟨old,u⟩,y⟩:=st
  have l1:=O.length
  obtain⟨U,A,f2,R,G,C⟩:=p it (by simp)
  exact Qhf (I.ok.hd d) (Yz m it a) u y D (jXe.mpr Om) fun h' eb=>⟨rfl,I.turned (t':=s.toks) (fun b o hb z=>eb b o hb z) U A R G C⟩
 self:=fun _ _ _ _ _ st h=>by
  obtain⟨⟨old,n⟩,_⟩:=st
  exact wpAny_pyIter_enum n h
def iEnum(K:Fg)(m:Bool)(ta:TA):TI:=fun σ H R=>ta σ H fun vs H1=>∃a,vs=[.ref a]/\(∃xs,Sq K m H1 a xs)/\R (Ite K m a) H1
theorem Qon{a:Expr}{p:Pos}(m:Bool)(M:Gl X "enumerate")(O:X.mg "enumerate"=none)(L:PA X [a] ta)(G:qb (starEach [a] X.env=[(false,eval a X.env)])) :
  PI X (.Tuple es kk tp) (.Call (.Name "enumerate" p) [a] [] pos) (iEnum X.K m ta):=by
 intro g s B H R I h
 refine Call_ (Vm I M O Qgv (PyProof.Rows.callWith_type1 (thn (L pos g s B H _ I h) fun T d v=>?_) G rfl))
 obtain⟨U,D,l,C,n⟩:=v
 obtain⟨f,e,⟨S,n⟩,q⟩:=n
 subst e
 obtain⟨P,rfl,J⟩:=C.one
 cases J
 obtain⟨r,C,y,Q⟩:=l.sq n
 refine callType_new F.called_enumerate Dc (F.typeCall_enumerate_1 _) (F.newCall_enumerate_1 _) (fun u=>F.args_object_init_2 u _) F.entry_enumerate_new (Qmb (Qio m f r)) ⟨y,?_⟩
 have w:(d.heap.push (Vj (itN m) f)).objs.size=(qa d)+1:=jZc ..
 have k:((d.heap.push (Vj (itN m) f)).push { cls:=.type "enumerate",data:=.fields #[.none,.bool false,.ref (qa d),rawInt 0,.none,.none] }).get? (d.heap.push (Vj (itN m) f)).objs.size=some { cls:=.type "enumerate",data:=.fields #[.none,.bool false,.ref (qa d),rawInt 0,.none,.none] }:=yJ _ rfl
 have E:((d.heap.push (Vj (itN m) f)).push { cls:=.type "enumerate",data:=.fields #[.none,.bool false,.ref (qa d),rawInt 0,.none,.none] }).get? (qa d)=some (Vj (itN m) f):=jV _ (yJ _ rfl)
 rw[w]at k
 show _/\_
 rw[w]
 have x:∀b o,d.heap.get? b=some o->((d.heap.push (Vj (itN m) f)).push { cls:=.type "enumerate",data:=.fields #[.none,.bool false,.ref (qa d),rawInt 0,.none,.none] }).get? b=some o:=fun b o z=>jV _ (jV _ z)
 generalize (d.heap.push (Vj (itN m) f)).push { cls:=.type "enumerate",data:=.fields #[.none,.bool false,.ref (qa d),rawInt 0,.none,.none] }=h' at E k x
 have N:Inv X g B D { d with heap:=h' }:=l.kept (t':=d.toks) x
 have j:f<(qa d):=Qek y
 exists ⟨_,k,rfl⟩,wpAny_pyIter_enum (s:={ d with heap:=h' }) k ⟨_,[(qa d)+1,(qa d)],_,_,D,rfl,N,Qom (m:=m) (a:=f) (Nat.succ_ne_self _) (zV (kQb j)) (zV j),⟨⟨_,k⟩,Qej m E⟩,fun c A=>?_,q⟩
 have i:(qa d)<=c:=by
  simp only[zK,jQb,or_false]at A
  rcases A with rfl | rfl
  .exact kYf _ _
  .exact jZ _
 exact l.fpOk i (l.hok.fresh i)
theorem Qkg{m:Bool}{g:TG}{D:Ends}(b:Nat->St->Hp->Prop)(l:b 0 σ H)(k:∀i σ H,i<=xs.length->b i σ H->Sq K m H a xs)
  (o:∀i x σ H T,xs[i]?=some x->b i σ H->H T=none->g (.ref T) σ (upd H T (.tup [.int (i:Nat),x])) fun σ2 H2=>tb { D with nx:=b (i+1),ct:=b (i+1),bk:=D.nx } σ2 H2) (hd:∀σ H,b xs.length σ H->D.nx σ H) :
  ∃W:Nat->Nat->St->Hp->Prop,(∃m,W 0 m σ H)/\∀i n σ H,W i n σ H ->
   ((Ite K m a).stop i H/\D.nx σ H)\/((Ite K m a).go i H/\∃N:St->Hp->Prop,(∀σ' H',N σ' H'->∃m',m'<n/\W (i+1) m' σ' H')/\∀x H',(Ite K m a).yld i H x H'->g x σ H' fun σ2 H2=>tb { D with nx:=N,ct:=N,bk:=D.nx } σ2 H2):=by
 exists fun i n σ H=>n=xs.length-i/\i<=xs.length/\b i σ H,⟨_,rfl,jQf _,l⟩,?_
 rintro i n σ H ⟨rfl,q,p⟩
 have d:=k i σ H q p
 by_cases c:i<xs.length
 .refine .inr ⟨⟨xs,xs[i],d,by simp[c]⟩,b (i+1),fun σ' H' h=>⟨xs.length-(i+1),Om,rfl,c,h⟩,fun x H' y=>?_⟩
  obtain⟨T,u,rfl,f,rfl,j⟩:=y
  exact o i u σ H T (j xs d) p f
 .have e:i=xs.length:=Om
  subst e
  exact .inl ⟨⟨xs,d,jZ _⟩,hd σ H p⟩
def Itr3(lo c:Int)(n:Nat):It:=⟨fun i _=>i<n,fun i H x H'=>H'=H/\x=.int (lo+(i:Nat)*c),fun i _=>n<=i⟩
theorem Qir(a:Addr)(lo c:Int)(n:Nat):Turn P w K tg (Itr3 lo c n) [a] a (fun i h=>IsRangeIter h a (lo+(i:Nat)*c) ((n:Int)-(i:Nat)) c) where
 mem:=by simp
 obj:=fun i h st b f=>by
  have e:b=a:=by simpa using f
  subst e
  exact⟨_,st,fun v z=>by
   have J:Data.fields _=Data.cell v:=z
   cases J⟩
 keep:=fun i h j st k=>k a (by simp) _ st
 item:=by
  intro X u x A r i d s D H E I l st B
  subst u x A
  obtain⟨C,m,L,y,q,p⟩:=l a (by simp)
  have W:=Walks.range (prog:=X.prog) (w:=X.w) (I.ok.hd r) a lo c n
  refine W.item i s _ _ B st fun v j F hv g M=>?_
  obtain⟨t,rfl⟩:=hv
  have G:Inv X d D H { s with heap:=j,toks:=F }:=I.turned (fun b o f e=>M b o (by simpa using f) e) C m y q p
  exists 4,Qsd (s:={ s with heap:=j,toks:=F }) (n:="range_iterator") g rfl rfl Dc ⟨.int (lo+(i:Nat)*c),H,G,⟨t,rfl⟩,⟨rfl,rfl⟩,g,fun b f=>(l b f).1⟩
 done:=by
  intro X u x A r i d s D H E I l st B
  subst u x A
  obtain⟨C,m,L,y,q,p⟩:=l a (by simp)
  exact wpAny_pyNext_range_end (I.ok.hd r) st (by have:n<=i:=B;lia) fun j N=>⟨rfl,I.turned (t':=s.toks) (fun b o f e=>N b o f e) C m y q p⟩
 self:=fun _ _ _ _ _ st h=>wpAny_pyIter_rangeiter st h
theorem Qcb(a b c:Int)(d:c≠0):0<=Builtin.Range.rangeSize a b c:=by
 unfold Builtin.Range.rangeSize
 split
 .split
  .have:=Int.ediv_nonneg (a:=b-a-1) (b:=c) Om Om;lia
  .exact kQc 0
 .split
  .have:=Int.ediv_nonneg (a:=a-b-1) (b:=-c) Om Om;lia
  .exact kQc 0
def iRng3(ta:TA):TI:=fun σ H R=>ta σ H fun vs H1=>∃i j c:Int,vs=[.int i,.int j,.int c]/\(c≠0/\c.natAbs<1073741824/\Builtin.Range.small i j c=true)/\R (Itr3 i c (Builtin.Range.rangeSize i j c).toNat) H1
theorem Wd{a b c:Expr}{p:Pos}(G:Gl X "range")(K:X.mg "range"=none)(E:PA X [a,b,c] ta)(B:qb (starEach [a,b,c] X.env=[(false,eval a X.env),(false,eval b X.env),(false,eval c X.env)]))(l:qb (starEach [b,c] X.env=[(false,eval b X.env),(false,eval c X.env)])) :
  PI X tg (.Call (.Name "range" p) [a,b,c] [] pos) (iRng3 ta):=by
 intro f s u H R I h
 refine Call_ (Vm I G K boot_range (PyProof.Rows.callWith_type1 (thn (E pos f s u H _ I h) fun L g m=>?_) (by rw[B,l]) (by rw[l];rfl)))
 obtain⟨M,w,y,F,A⟩:=m
 obtain⟨i,j,k,e,⟨v,J,x⟩,q⟩:=A
 subst e
 cases F with
 |cons r rr=>
  cases rr with
  |cons r' rr=>
   cases rr with
   |cons r'' rr=>
    cases rr
    obtain⟨t,rfl⟩:=r
    obtain⟨t',rfl⟩:=r'
    obtain⟨d,rfl⟩:=r''
    refine call_range_3 v ?_ (.inl (PyProof.noPylong_small J))
    refine wpAny_pyIter_range (IsRange.new ..) x ?_
    have n:Inv X f u w { g with heap:=g.heap.push { cls:=.type "range",data:=.fields #[.int i t,.int j t',.int k d] },toks:=g.toks }:=y.kept fun b o e=>jV _ e
    refine⟨(g.heap.push { cls:=.type "range",data:=.fields #[.int i t,.int j t',.int k d] }).objs.size,[(g.heap.push { cls:=.type "range",data:=.fields #[.int i t,.int j t',.int k d] }).objs.size],_,_,w,rfl,
     n.kept (t':=g.toks) fun b o e=>jV _ e,Qir _ i k (Builtin.Range.rangeSize i j k).toNat,?_,fun b z=>?_,q⟩
    .have C:i+((0:Nat):Int)*k=i:=by simp
     have D:(((Builtin.Range.rangeSize i j k).toNat:Nat):Int)-((0:Nat):Int)=Builtin.Range.rangeSize i j k:=by have:=Qcb i j k v;lia
     show IsRangeIter _ _ (i+((0:Nat):Int)*k) ((((Builtin.Range.rangeSize i j k).toNat:Nat):Int)-((0:Nat):Int)) k
     rw[C,D]
     exact yJ _ rfl
    .have e:b=(g.heap.push { cls:=.type "range",data:=.fields #[.int i t,.int j t',.int k d] }).objs.size:=by simpa using z
     subst e
     exact n.fpOk (jZ _) (n.hok.fresh (jZ _))
theorem Vb{c:Int}{g:TG}{D:Ends}(b:Nat->St->Hp->Prop)(f:b 0 σ H)
  (h:∀i σ H,i<n->b i σ H->g (.int (lo+(i:Nat)*c)) σ H fun σ2 H2=>tb { D with nx:=b (i+1),ct:=b (i+1),bk:=D.nx } σ2 H2) (hd:∀σ H,b n σ H->D.nx σ H) :
  ∃W:Nat->Nat->St->Hp->Prop,(∃m,W 0 m σ H)/\∀i m σ H,W i m σ H ->
   ((Itr3 lo c n).stop i H/\D.nx σ H)\/((Itr3 lo c n).go i H/\∃N:St->Hp->Prop,(∀σ' H',N σ' H'->∃m',m'<m/\W (i+1) m' σ' H')/\∀x H',(Itr3 lo c n).yld i H x H'->g x σ H' fun σ2 H2=>tb { D with nx:=N,ct:=N,bk:=D.nx } σ2 H2):=by
 exists fun i m σ H=>m=n-i/\i<=n/\b i σ H,⟨n,by simp,jQf _,f⟩,?_
 rintro i m σ H ⟨rfl,j,p⟩
 by_cases a:i<n
 .refine .inr ⟨a,b (i+1),fun σ' H' d=>⟨n-(i+1),Om,rfl,a,d⟩,fun x H' y=>?_⟩
  obtain⟨e,y⟩:=y
  subst e y
  exact h i σ _ a p
 .have e:i=n:=Om
  subst e
  exact .inl ⟨jZ _,hd σ H p⟩
end L2
namespace L2
open PySem PySem.Spec PyProof.Rows PySem.W
theorem Qab:OpR X (binaryOp .Mult) (rI IntMulOk fun i j=>.int (i*j)):=opI fun _ _ _ _ _ _ _ a q=>mul_int q a
theorem Qkh:PGet X (rIxL X.K):=by
 intro a s v H o i F G Q I C A h
 obtain⟨p,J,k,z,rfl,rfl,u,n,q⟩:=h
 cases C
 obtain⟨t,rfl⟩:=A
 obtain⟨d,r,f,L⟩:=I.list u
 obtain⟨j,b,B,D,y,m⟩:=Qil n
 obtain⟨w,g,c⟩:=r.get B
 have x:=r.length
 have E:=Qdk
 have fin:EP X a v Q w s:=⟨z,H,I,c,q⟩
 by_cases l:0<=k
 .have e:k.toNat=j:=by
   rw[seqIndex_of l m]at b
   exact Y5 b
  exact wpAny_getItem_list f.isList l Om (by rw[e];simpa using g) fin
 .have e:(k+(d.toArray.size:Int)).toNat=j:=by
   rw[seqIndex_neg Om y]at b
   rw[kQ,<-x]
   exact Y5 b
  exact wpAny_getItem_list_neg f.isList Om (by rw[kQ]<;>lia) Om (by rw[e];simpa using g) fin
inductive IsT:String->Prop
 |int:IsT "int"
 |bool:IsT "bool"
 |tuple:IsT "tuple"
 |list:IsT "list"
 |str:IsT "str"
def isiW(K:Fg)(H:Hp):V->String->Bool->Prop
 |.non,_,b=>b=false
 |.int _,T,b=>b=decide (T="int")
 |.bl _,T,b=>b=decide (T="int"\/T="bool")
 |.str _,T,b=>b=decide (T="str")
 |.ref a,T,b=>((∃xs,SqT K H a xs)/\b=decide (T="tuple"))\/((∃xs,SqL K H a xs)/\b=decide (T="list"))
 |_,_,_=>False
theorem Xm:Jb X (.builtin "isinstance") (fun xs H Q=>∃x T b,xs=[x,.ty T]/\IsT T/\isiW X.K H x T b/\Q (.bl b) H):=by
 intro g s w H xs z Q I p h
 obtain⟨x,T,b,rfl,f,d,q⟩:=h
 obtain⟨u,v,rfl,i,y⟩:=p.two
 cases y
 have fin:∀(l:Nat),EP X g w Q (.bool b) { s with toks:=l }:=fun l=>⟨.bl b,H,I.tok l,rfl,q⟩
 cases x with
 |int n=>
  obtain⟨t,rfl⟩:=i
  cases f<;>(subst d)
  .exact IsiPair.int_int (fin s.toks)
  .exact IsiPair.int_bool (fin _)
  .exact IsiPair.int_tuple (fin _)
  .exact IsiPair.int_list (fin _)
  .exact IsiPair.int_str (fin _)
 |bl n=>
  cases i
  cases f<;>(subst d)
  .exact IsiPair.bool_int (fin s.toks)
  .exact IsiPair.bool_bool (fin s.toks)
  .exact IsiPair.bool_tuple (fin _)
  .exact IsiPair.bool_list (fin _)
  .exact IsiPair.bool_str (fin _)
 |str n=>
  obtain⟨t,rfl⟩:=i
  cases f<;>(subst d)
  .exact IsiPair.str_int (fin _)
  .exact IsiPair.str_bool (fin _)
  .exact IsiPair.str_tuple (fin _)
  .exact IsiPair.str_list (fin _)
  .exact IsiPair.str_str (fin s.toks)
 |non=>
  cases i
  cases f<;>(subst d)
  .exact IsiPair.NoneType_int (fin _)
  .exact IsiPair.NoneType_bool (fin _)
  .exact IsiPair.NoneType_tuple (fin _)
  .exact IsiPair.NoneType_list (fin _)
  .exact IsiPair.NoneType_str (fin _)
 |ref a=>
  cases i
  rcases d with⟨⟨xs,k⟩,d⟩ | ⟨⟨xs,k⟩,d⟩
  .obtain⟨j,r,⟨o,e,c,_⟩,_⟩:=I.tuple k
   cases f<;>(subst d)
   .exact IsiPair.tuple_int e c (fin _)
   .exact IsiPair.tuple_bool e c (fin _)
   .exact IsiPair.tuple_tuple e c (fin s.toks)
   .exact IsiPair.tuple_list e c (fin _)
   .exact IsiPair.tuple_str e c (fin _)
  .obtain⟨j,r,m,_⟩:=I.list k
   obtain⟨o,e,c,_⟩:=m.isList
   cases f<;>(subst d)
   .exact IsiPair.list_int e c (fin _)
   .exact IsiPair.list_bool e c (fin _)
   .exact IsiPair.list_tuple e c (fin _)
   .exact IsiPair.list_list e c (fin s.toks)
   .exact IsiPair.list_str e c (fin _)
 |byt _=>exact d.elim
 |flt _=>exact d.elim
 |ty _=>exact d.elim
theorem Qis(h:WData.layableAll [WData.list (ns.map WData.int)]=true):∀n∈ns,Builtin.Int.intBits n<=2 ^ 20:=by
 intro n e
 have f:=layableW_arg h _ (kW.mpr rfl)
 obtain⟨b,i,a⟩:=layableW_iff.mp f
 simp only[WData.canLay]at b
 simp only[WData.weight]at a
 obtain⟨_,_,c⟩:=items_part (d:=WData.int n) (zW.mpr ⟨n,e,rfl⟩) b
 have g:(WData.int n).weight<=2 ^ 20:=jZa c a
 simpa only[WData.weight,Builtin.Int.intBits]using g
open Att in
theorem Qsw{l:PySem.W.OpenLaw}{k:Nat}{q:Program}{XP:Z9->Heap->Prop}{YP:World->Heap->Prop}{d:DefRec}{K:Params->Fg}{CX:World->CXT}{sp:World->Sp}
  (Q:l.most=some n) (B:n<=sizeLine) (A:d.params.defaults=[]) (U:Room k callerA)
  (Z:∀(w:World) (h:Heap),YP w h->(K w.params).In h)
  (F:∀(w:World) (mg:Z9) (fa:Addr) (h:Heap),(K w.params).In h->h.Ns mainGlobals mg->mg d.name=some (.ref fa) ->
   ∃fd:FuncData,(∀(s:Shared) (u:Value),BindsTo s fd ⟨[u],[]⟩ [(x,u)]) /\
    ∀base:Heap,(K w.params).In base->base.Ns mainGlobals mg->FnOk l.prog w (K w.params) mg base (CX w) k fa fd [x] (sp w))
  (E:∀(w:World) (H:Hp) (a:Addr) (ns:List Int),ns.length<=n->(∀m∈ns,Builtin.Int.intBits m<=2 ^ 20)->SqL (K w.params) H a (ns.map V.int)->sp w [.ref a] H (fun v _=>v=.bl true) fun _ _ _=>False)
  (C:∀(w:World) (H:Hp) (s:Shared) (e:Value) (s':Shared),CX w [] H s (fun _ _ _=>False) e s'->False) :
  PySem.W.WalkO q loose XP YP l.row.toRowW d [] (fun f vs=>PySem.call f vs):=by
 intro w I p mg mb G Y fa o pm cd aa P kV ho hd ac M z hg N J as y t S D ab
 obtain rfl:P=.none:=Dflts.none M A
 obtain rfl:kV=.none:=Dflts.noKw M
 obtain⟨a,vs,ns,rfl,rfl,j,i,c⟩:=Qnr Q y D
 have L:=Z w _ Y
 obtain⟨fd,R,hF⟩:=F w mg fa _ L G.T.g z
 refine enter_call (codeAny_mono (Qsj L G.T.g G.T.b G.T.builtins G.T.nolimit hg j i (jZa c B) U hF R (fun H hO hS=>E w H a ns c (Qis t) hS) fun H e s'=>C w H p e s') fun r s' X=>?_)
 obtain⟨rfl,h2,O,h4⟩:=X
 exists .inl ⟨.bool true,.bool true,[],rfl,fun _=>rfl,.bool true,Qns l _,fun _=>⟨List.Pairwise.nil,fun _ hm=>(nomatch hm)⟩⟩,h2,O,h4
end L2
namespace L2
open PySem PySem.Spec PySem.Calls PyProof.Rows PySem.W
def Big(i:Int):Prop:=i.natAbs<2 ^ 4000
theorem We:OpR X (binaryOp .FloorDiv) (rI (fun _ j=>j≠0/\Big j) fun i j=>.int (i.fdiv j)):=opI fun i j _ _ _ _ _ a q=>floordiv_int a.1 q (.inl (PyProof.noPylong_of_log2 (xJ ((Nat.log2_lt (by have:=a.1;lia)).mpr a.2) Dc)))
def rCatG(K:Fg):R2:=fun x y H Q=>∃a b xs ys,x=.ref a/\y=.ref b/\SqT K H a xs/\SqT K H b ys/\ys≠[]/\xs.length+ys.length<=sizeLine/\∀(p:Addr) (H':Hp),Same H H'->SqT K H' p (xs++ys)->Q (.ref p) H'
theorem Qoo:OpR X (binaryOp .Add) (rCatG X.K):=by
 intro d s L H x y v u Q I B m h
 obtain⟨a,b,C,N,rfl,rfl,w,j,T,U,q⟩:=h
 by_cases t:C=[]
 .subst t
  cases B
  cases m
  obtain⟨l,P,G,_⟩:=I.tuple w
  obtain⟨e,W,M,_⟩:=I.tuple j
  have V:l=[]:=P.nil_iff.mpr rfl
  subst V
  obtain⟨⟨Y,J,S,k⟩,A,r,n,o⟩:=id G
  obtain⟨⟨Z,O,D,i⟩,g,c,E,f⟩:=id M
  simp only at r o c f
  subst r o c f
  exact concat_meets ⟨_,A,rfl⟩ ⟨_,g,rfl⟩ noFill_tuple_add seq_tuple_add PySem.F.slot_tuple_add PySem.F.entry_tuple_add (PySem.F.args_tuple_add_2 _ _) (tuple_addW0 a b ([]:List Value).toArray e.toArray n E J O k i (by simp)) ⟨A,g,⟨.ref b,H,I,rfl,q b H (Same.refl H) j⟩⟩
 .exact Qik d s L H (.ref a) (.ref b) v u Q I B m ⟨a,b,C,N,rfl,rfl,w,j,t,U,fun z=>Y21 z T,fun _ p R=>q p _ (Qb R _) (Ql upd_same)⟩
end L2
namespace L2
open PySem PySem.W PyProof.Rows
def kGood{α:Type}(f:Nat->Nat->Bool)(n:Nat):KasT α->(α->Prop)->Prop
 |.ret a,Q=>Q a
 |.ask i j k,Q=>i<n/\j<n/\kGood f n (k (f i j)) Q
theorem kGood.bind{α β:Type}{f:Nat->Nat->Bool}{n:Nat}{g:α->KasT β}{Q:β->Prop}:∀(t:KasT α),kGood f n t (fun a=>kGood f n (g a) Q)->kGood f n (t.bind g) Q
 |.ret a,h=>h
 |.ask i j k,h=>⟨h.1,h.2.1,kGood.bind (k (f i j)) h.2.2⟩
theorem kGood.mono{α:Type}{f:Nat->Nat->Bool}{n:Nat}{Q Q':α->Prop}(b:∀a,Q a->Q' a):∀(t:KasT α),kGood f n t Q->kGood f n t Q'
 |.ret a,h=>b a h
 |.ask i j k,h=>⟨h.1,h.2.1,kGood.mono b (k (f i j)) h.2.2⟩
theorem kGood.wp{α:Type}{f:Nat->Nat->Bool}{n:Nat}{cmp:Nat->Nat->(Bool->Shared->Prop)->Shared->Prop}{s:Shared}(c:∀i j C,i<n->j<n->C (f i j) s->cmp i j C s){Q:α->Prop}{R:α->Shared->Prop}(b:∀a,Q a->R a s) :
  ∀(t:KasT α),kGood f n t Q->t.kasWp cmp R s
 |.ret a,h=>b a h
 |.ask i j k,h=>c i j _ h.1 h.2.1 (kGood.wp c b (k (f i j)) h.2.2)
theorem Qki{g:Nat->Int}{m:Nat}(h:∀i,i+1<m->g i<=g (i+1)):∀j i,i<=j->j<m->g i<=g j
 |0,i,hi,_=>by rw[Nat.le_zero.mp hi];exact kQc _
 |j+1,i,hi,hj=>by
  by_cases e:i=j+1
  .rw[e];exact kQc _
  .exact Int.le_trans (Qki h j i Om Om) (h j hj)
section
variable{r:Nat->Int}
def rk(r:Nat->Int)(p:Array Nat)(i:Nat):Int:=r (p.getD i 0)
def Jy(r:Nat->Int)(i j:Nat):Bool:=decide (r i<r j)
def PermN(n:Nat)(p:Array Nat):Prop:=p.Perm (List.toArray (List.range n))
theorem gD{q:Array Nat}(h:p[i]?=q[j]?):p.getD i 0=q.getD j 0:=by rw[wK,wK,h]
theorem Qop{q:Array Nat}(h:p[i]?=q[j]?):rk r p i=rk r q j:=congrArg r (gD h)
theorem PermN.size(h:PermN n p):p.size=n:=by have:=h.size_eq;simpa using this
theorem PermN.lt(h:PermN n p)(b:0<n)(i:Nat):p.getD i 0<n:=by
 rw[wK]
 cases e:p[i]? with
 |none=>exact b
 |some v=>
  have a:v∈p:=Array.mem_of_getElem? e
  have:=h.mem_iff.mp a
  simpa using this
theorem PermN.rev(h:PermN n p)(i j:Nat):PermN n (kas_rev p i j):=(mirror_perm p i j _).trans h
theorem Qoq(a:j<=p.size)(k:Nat):rk r (kas_rev p i j) k=if i<=k/\k<j then rk r p (i+j-1-k)else rk r p k:=by
 have e:=getElem?_mirror_all (i:=i) a k
 by_cases c:i<=k/\k<j
 .rw[Y22 c]at e⊢;exact Qop e
 .rw[Y20 c]at e⊢;exact Qop e
theorem Qeu{p:Array Nat}(d:PermN n p)(b:0<n):∀(f a:Nat),kGood (Jy r) n (kas_asc p f a) fun m=>a<=m/\m<=a+f/\(∀i,a<=i->i<m->rk r p (i-1)<=rk r p i)/\(m<a+f->rk r p m<rk r p (m-1))
 |0,a=>⟨jZ _,jZ _,fun i j g=>Om,fun h=>Om⟩
 |f+1,a=>by
  exists d.lt b _,d.lt b _,?_
  by_cases c:rk r p a<rk r p (a-1)
  .rw[show Jy r (p.getD a 0) (p.getD (a-1) 0)=true from zX c];dsimp only;rw[Y22 rfl]
   exists jZ _,Om,fun i j g=>Om,fun _=>c
  .rw[show Jy r (p.getD a 0) (p.getD (a-1) 0)=false from zJ c];dsimp only;rw[Y20 yX]
   refine kGood.mono (fun m h=>?_) _ (Qeu d b f (a+1))
   obtain⟨j,g,k,o⟩:=h
   exists Om,Om,fun i q l=>?_,fun z=>o Om
   by_cases e:i=a
   .subst e;lia
   .exact k i Om l
def Falls(r:Nat->Int)(p:Array Nat)(m:Nat):Prop:=∀i,1<=i->i<m->rk r p i<=rk r p (i-1)
def Flat(r:Nat->Int)(p:Array Nat)(m q:Nat):Prop:=q+1<=m/\∀i,m-(q+1)<=i->i<m->rk r p i=rk r p (m-1)
theorem Qev(b:PermN n p){q:Nat}(a:m<=n)(h:Flat r p m q)(k:Nat):rk r (kas_rev p (m-(q+1)) m) k=rk r p k:=by
 rw[Qoq (by rw[b.size];exact a)]
 have d:=h.1
 by_cases c:m-(q+1)<=k/\k<m
 .rw[Y22 c,h.2 k c.1 c.2,h.2 _ Om Om]
 .rw[Y20 c]
theorem Wf(j:0<n):∀(f:Nat) (p:Array Nat) (a q:Nat),PermN n p->a+f<=n->1<=a->Falls r p a->Flat r p a q->kGood (Jy r) n (kas_desc f p a q) fun x=>PermN n x.1/\a<=x.2.1/\x.2.1<=a+f/\Falls r x.1 x.2.1/\Flat r x.1 x.2.1 x.2.2
 |0,p,a,q,hp,_,_,h1,h2=>⟨hp,jZ _,jZ _,h1,h2⟩
 |f+1,p,a,q,hp,hf,ha,h1,h2=>by
  exists hp.lt j _,hp.lt j _,?_
  have b:∀o:Array Nat,Flat r o (a+1) 0:=fun o=>⟨Om,fun i k l=>by rw[show i=a by lia];rfl⟩
  by_cases c:rk r p a<rk r p (a-1)
  .rw[show Jy r (p.getD a 0) (p.getD (a-1) 0)=true from zX c];dsimp only;rw[Y22 rfl]
   by_cases m:q > 0
   .rw[Y22 m]
    have e:=Qev hp Om h2
    refine kGood.mono (fun x h=>⟨h.1,by have:=h.2.1;lia,by have:=h.2.2.1;lia,h.2.2.2⟩) _ (Wf j f _ (a+1) 0 (hp.rev _ _) Om Om (fun i k l=>?_) (b _))
    rw[e,e]
    by_cases g:i=a
    .subst g;lia
    .exact h1 i k Om
   .rw[Y20 m]
    refine kGood.mono (fun x h=>⟨h.1,by have:=h.2.1;lia,by have:=h.2.2.1;lia,h.2.2.2⟩) _ (Wf j f _ (a+1) 0 hp Om Om (fun i k l=>?_) (b _))
    by_cases g:i=a
    .subst g;lia
    .exact h1 i k Om
  .rw[show Jy r (p.getD a 0) (p.getD (a-1) 0)=false from zJ c];dsimp only;rw[Y20 yX]
   exists hp.lt j _,hp.lt j _,?_
   by_cases d:rk r p (a-1)<rk r p a
   .rw[show Jy r (p.getD (a-1) 0) (p.getD a 0)=true from zX d];dsimp only;rw[Y22 rfl]
    exists hp,jZ _,kYf _ _,h1,h2
   .rw[show Jy r (p.getD (a-1) 0) (p.getD a 0)=false from zJ d];dsimp only;rw[Y20 yX]
    refine kGood.mono (fun x h=>⟨h.1,by have:=h.2.1;lia,by have:=h.2.2.1;lia,h.2.2.2⟩) _ (Wf j f _ (a+1) (q+1) hp Om Om (fun i k l=>?_) ⟨by have:=h2.1;lia,fun i k l=>?_⟩)
    .by_cases g:i=a
     .subst g;lia
     .exact h1 i k Om
    .have:=h2.1
     show rk r p i=rk r p a
     by_cases g:i=a
     .rw[g]
     .rw[h2.2 i Om Om];lia
def Qcc(r:Nat->Int)(p:Array Nat)(m:Nat):Prop:=∀i j,i<=j->j<m->rk r p i<=rk r p j
theorem Qkj(h:∀i,1<=i->i<m->rk r p (i-1)<=rk r p i):Qcc r p m:=fun i j=>Qki (fun i a=>h (i+1) Om a) j i
theorem Qdq(g:0<n)(a:PermN n p)(q:1<=m)(j:m<=n)(h:Falls r p m):kGood (Jy r) n (kas_tail3 m n p) fun x=>PermN n x.2/\1<=x.1/\x.1<=n/\Qcc r x.2 x.1:=by
 refine kGood.bind _ (kGood.mono (fun k d=>?_) _ (Qeu (a.rev 0 m) g (n-m) m))
 obtain⟨s,o,f,_⟩:=d
 exists a.rev _ _,by show 1<=k;lia,by show k<=n;lia,Qkj fun i l e=>?_
 by_cases c:i<m
 .have b:m<=p.size:=by rw[a.size];exact j
  rw[Qoq b,Qoq b,Y22 ⟨Om,Om⟩,Y22 ⟨Om,c⟩]
  have:=h (0+m-1-(i-1)) Om Om
  rw[show 0+m-1-(i-1)-1=0+m-1-i by lia]at this
  exact this
 .exact f i Om e
theorem Wg(a:0<n)(l:PermN n p)(t:1<=m)(s:m<n)(h:Falls r p (m+1)):kGood (Jy r) n (kas_descPart m n p) fun x=>PermN n x.2/\1<=x.1/\x.1<=n/\Qcc r x.2 x.1:=by
 refine kGood.bind _ (kGood.mono (fun x j=>?_) _ (Wf a (n-(m+1)) p (m+1) 0 l Om Om h ⟨Om,fun i g d=>by rw[show i=m by lia];rfl⟩))
 obtain⟨b,q,o,f,k⟩:=j
 by_cases c:x.2.2 > 0
 .rw[Y22 c]
  have e:=Qev b Om k
  exact Qdq a (b.rev _ _) Om Om fun i g d=>by rw[e,e];exact f i g d
 .rw[Y20 c]
  exact Qdq a b Om Om f
theorem Qmc(b:0<n)(a:PermN n p):kGood (Jy r) n (kas_count n p) fun x=>PermN n x.2/\1<=x.1/\x.1<=n/\Qcc r x.2 x.1:=by
 refine kGood.bind _ (kGood.mono (fun m t=>?_) _ (Qeu a b (n-1) 1))
 obtain⟨f,w,o,s⟩:=t
 have g:Qcc r p m:=Qkj o
 by_cases c:(m == n)=true
 .rw[Y22 c]
  exists a,f,by show m<=n;lia,g
 .rw[Y20 c]
  have v:m≠n:=fun z=>c (by rw[z];exact beq_self_eq_true n)
  have y:=s Om
  by_cases k:m > 1
  .rw[Y22 k]
   exists a.lt b _,a.lt b _,?_
   by_cases d:rk r p 0<rk r p (m-1)
   .rw[show Jy r (p.getD 0 0) (p.getD (m-1) 0)=true from zX d];dsimp only;rw[Y22 rfl]
    exists a,f,by show m<=n;lia,g
   .rw[show Jy r (p.getD 0 0) (p.getD (m-1) 0)=false from zJ d];dsimp only;rw[Y20 yX]
    have j:Flat r p m (m-1):=⟨Om,fun i l h=>by
     have A:=g 0 i Om h
     have u:=g i (m-1) Om Om
     lia⟩
    have e:=Qev a Om j
    rw[show m-(m-1+1)=0 by lia]at e
    refine Wg b (a.rev _ _) f Om fun i l h=>?_
    rw[e,e]
    by_cases q:i=m
    .subst q;lia
    .rw[j.2 i Om Om,j.2 (i-1) Om Om];exact kQc _
  .rw[Y20 k]
   refine Wg b a f Om fun i l h=>?_
   have:i=m:=Om
   subst this;lia
theorem Qac(g:0<n){p:Array Nat}(j:PermN n p){k:Nat}(h:Qcc r p k):∀(f a b:Nat),a<=b->b<=k->b-a<=f->(∀i,i<a->rk r p i<=rk r p k)->(∀i,b<=i->i<k->rk r p k<=rk r p i) ->
  kGood (Jy r) n (kas_place p k f a b) fun l=>l<=k/\(∀i,i<l->rk r p i<=rk r p k)/\∀i,l<=i->i<k->rk r p k<=rk r p i
 |0,a,b,h1,h2,h3,h4,h5=>⟨Om,h4,fun i m e=>h5 i Om e⟩
 |f+1,a,b,h1,h2,h3,h4,h5=>by
  unfold kas_place
  by_cases c:a≥b
  .rw[Y22 c]
   exists Om,h4,fun i m e=>h5 i Om e
  .rw[Y20 c]
   exists j.lt g _,j.lt g _,?_
   by_cases d:rk r p k<rk r p ((a+b) / 2)
   .rw[show Jy r (p.getD k 0) (p.getD ((a+b) / 2) 0)=true from zX d];dsimp only;rw[Y22 rfl]
    refine Qac g j h f a ((a+b) / 2) Om Om Om h4 fun i m e=>?_
    have:=h ((a+b) / 2) i m e
    lia
   .rw[show Jy r (p.getD k 0) (p.getD ((a+b) / 2) 0)=false from zJ d];dsimp only;rw[Y20 yX]
    refine Qac g j h f ((a+b) / 2+1) b Om Om Om (fun i o=>?_) h5
    have:=h i ((a+b) / 2) Om Om
    lia
theorem Qkk(d:0<n):∀(f:Nat) (p:Array Nat) (k:Nat),PermN n p->k+f=n->Qcc r p k->kGood (Jy r) n (kas_bin f p k) fun x=>PermN n x/\Qcc r x n
 |0,p,k,hp,hk,up=>⟨hp,(show k=n by lia)▸up⟩
 |f+1,p,k,hp,hk,up=>by
  unfold kas_bin
  refine kGood.bind _ (kGood.mono (fun l t=>?_) _ (Qac d hp up k 0 k (jQf _) (jZ _) Om (fun i A=>Om) (fun i w v=>Om)))
  obtain⟨z,s,u⟩:=t
  refine Qkk d f _ (k+1) ((bubble_perm _ _ _).trans hp) Om ?_
  have m:∀i,rk r (bubble p k (k-l)) i=if i=l then rk r p k else if l<i/\i<=k then rk r p (i-1)else rk r p i:=fun i=>by
   have e:=getElem?_bubble (xs:=p) (src:=k) (by rw[hp.size];lia) (k-l) Om i
   rw[show k-(k-l)=l by lia]at e
   by_cases o:i=l
   .rw[Y22 o]at e⊢;exact Qop e
   .rw[Y20 o]at e⊢
    by_cases q:l<i/\i<=k
    .rw[Y22 q]at e⊢;exact Qop e
    .rw[Y20 q]at e⊢;exact Qop e
  intro i j b y
  rw[m,m]
  by_cases h:i=l
  .rw[Y22 h]
   by_cases a:j=l
   .rw[Y22 a];exact kQc _
   .rw[Y20 a,Y22 ⟨Om,Om⟩]
    exact u (j-1) Om Om
  .rw[Y20 h]
   by_cases c:l<i/\i<=k
   .rw[Y22 c,Y20 Om,Y22 ⟨Om,Om⟩]
    exact up (i-1) (j-1) Om Om
   .rw[Y20 c]
    by_cases a:j=l
    .rw[Y22 a];exact s i Om
    .rw[Y20 a]
     by_cases g:l<j/\j<=k
     .rw[Y22 g];exact up i (j-1) Om Om
     .rw[Y20 g];exact up i j b Om
theorem Qor(b:0<n):kGood (Jy r) n (kas_sort n) fun x=>PermN n x/\Qcc r x n:=by
 refine kGood.bind _ (kGood.mono (fun x f=>?_) _ (Qmc b (p:=List.toArray (List.range n)) (Array.Perm.refl _)))
 obtain⟨d,h,g,a⟩:=f
 by_cases c:x.1<n
 .rw[Y22 c,show max x.1 1=x.1 by lia]
  exact Qkk b _ _ _ d Om a
 .rw[Y20 c]
  have e:x.1=n:=Om
  rw[e]at a
  exists d,a
end
end L2
namespace L2
open PySem PySem.Spec PySem.W PyProof.Rows
open PySem.SeqAt
theorem Qwx{a b:Int}{as bs:List Int}:decide (a::as<b::bs)=if a=b then decide (as<bs)else decide (a<b):=by
 rw[jXc]
 by_cases e:a=b
 .subst e
  rw[Y22 rfl,decide_eq_true_iff,decide_eq_true_iff,List.cons_lt_cons_iff]
  constructor
  .rintro(h | ⟨_,h⟩)
   .omega
   .exact h
  .intro h;exact .inr ⟨rfl,h⟩
 .rw[Y20 e,decide_eq_true_iff,decide_eq_true_iff,List.cons_lt_cons_iff]
  constructor
  .rintro(h | ⟨h,_⟩)
   .exact h
   .exact Y21 h e
  .intro h;exact .inl h
theorem Qmd(l b:Addr)(i f:Array Value)(n W:Nat)(T H:Option Addr)(P E:Array (Option Value))(ns M:List Int)(U:IntsAre i.toList ns)(S:IntsAre f.toList M) :
  Meets (Builtin.«tuple.__lt__» ⟨[.ref l,.ref b],[]⟩)
   (fun A R s=>s.heap.get? l=some { cls:=.type "tuple",dict:=T,data:=.seq i n,slots:=P }/\s.heap.get? b=some { cls:=.type "tuple",dict:=H,data:=.seq f W,slots:=E } /\
    R (.ok (.ret (.bool (decide (ns<M))))) s) :=
 .of_wp fun o w A R s h=>by
  obtain⟨L,g,d,K,J⟩:=s;obtain⟨O,N,h⟩:=h
  have X:=AutoSeq1.sub_tuple_tuple
  wp_walk using wpAny_loadPart' O,wpAny_loadPart' N,wpAny_forIn_list _ (fun m b I=>b.1=none/\I=⟨L,g,d,K,J⟩/\∃B C k j c,m=List.zip B C/\IntsAre B k/\IntsAre C j/\B.length+c=i.size/\C.length+c=f.size /\
   R (.ok (.ret (.bool (decide (k<j))))) ⟨L,g,d,K,J⟩) _
  case turn=>
   rintro⟨y,x⟩ m b I ⟨r,rfl,B,C,k,j,c,u,v,q,D,z,p⟩
   cases v with
   |nil=>cases u
   |cons a t v=>
    cases q with
    |nil=>cases u
    |cons a' t' q=>
     rw[List.zip_cons_cons]at u
     injection u with G F
     injection G with V Q
     subst V Q
     rw[Qwx]at p
     rw[zZ]at D z
     refine jX (EqAt.int_int a t a' t' o w _ _ ?_)
     by_cases e:a=a'
     .subst e
      rw[Y22 rfl]at p
      rw[beq_self_eq_true]
      wp_walk
      exists rfl,rfl,_,_,_,_,c+1,F,v,q,Om,Om,p
     .rw[Y20 e]at p
      rw[show(a == a')=false from by simpa using e]
      wp_walk using(show qe o w _ (richCompare .Lt (.int a t) (.int a' t')) _ _ _ from lt_int ?_)
      exists 4,p
  case fin=>
   rintro⟨Y,Z⟩ I ⟨r,rfl,B,C,k,j,c,u,v,q,D,z,p⟩
   simp only at r
   subst r
   wp_walk
   exists 4,?_
   have e:decide (k<j)=decide (i.size<f.size):=by
    cases v with
    |nil=>
     cases q with
     |nil=>rw[<-D,<-z,zJ (kQd _)];rfl
     |cons a t q=>
      rw[zZ]at z
      rw[jKf]at D
      rw[zX (show i.size<f.size by lia)]
      exact zX (List.nil_lt_cons _ _)
    |cons a t v=>
     cases q with
     |nil=>
      rw[zZ]at D
      rw[jKf]at z
      rw[zJ (show ¬i.size<f.size by lia)]
      exact zJ (List.not_lt_nil _)
     |cons a' t' q=>rw[List.zip_cons_cons]at u;cases u
   rw[e]at p
   exact p
  case h=>
   exists rfl,rfl,_,_,_,_,0,rfl,U,S,by simp,by simp,h
section
variable{prog:Program}
theorem Qwy{items:Array Value}{Q:VP}(r:s.heap.IsTuple l items)(p:s.heap.IsTuple b items2)(y:IntsAre items.toList ns)(u:IntsAre items2.toList ms)(q:A.units<cLine)
  (h:Q (.bool (decide (ns<ms))) s):qe prog w A (compareOp .Lt (.ref l) (.ref b)) Q E s:=by
 obtain⟨⟨z,v,m,t⟩,k,j,n,i⟩:=id r
 obtain⟨⟨o,f,g,e⟩,c,a,B,d⟩:=id p
 simp only at j i a d
 subst j i a d
 exact richCompare_meets_room (op:=.Lt) ⟨_,k,rfl⟩ ⟨_,c,rfl⟩ F.slot_tuple_lt F.entry_tuple_lt (F.args_tuple_lt_2 _ _) (Qmd l b items items2 n B v f t e ns ms y u)
  ⟨k,c,show Value.bool (decide (ns<ms))≠Value.notImplemented/\Q (.bool (decide (ns<ms))) s from⟨(fun x=>nomatch x),h⟩⟩ q
theorem Qit{vs:List Value}(h:IntsAre vs ns)(g:IntsAre vs ms):ns=ms:=by
 induction h generalizing ms with
 |nil=>cases g;rfl
 |cons n t h ih=>
  cases g with
  |cons _ _ h'=>rw[ih h']
theorem Vs:∀{vs:List Value} {ns:List Int},IntsAre vs ns->∀(j:Nat) (h:j<vs.length),∃n t,ns[j]?=some n/\vs[j]=.int n t
 |_,_,.nil,j,h=>by simp at h
 |_,_,.cons n t h',0,h=>⟨n,t,rfl,rfl⟩
 |_,_,.cons n t h',j+1,h=>by
  obtain⟨m,u,b,a⟩:=Vs h' j (by simpa using h)
  exists m,u,by simpa using b,by simpa using a
theorem Vt:∀{vs:List Value} {ns:List Int},IntsAre vs ns->vs.length=ns.length
 |_,_,.nil=>rfl
 |_,_,.cons n t h=>by rw[zZ,zZ,Vt h]
theorem Qwz{items:Array Value}(m:s.heap.IsTuple l items)(k:s.heap.IsTuple b items2)(i:IntsAre items.toList ns)(g:IntsAre items2.toList ms)(w:A.units<cLine) :
  EqAt A s (.ref l) (.ref b) (decide (ns=ms)):=by
 by_cases e:l=b
 .subst e
  obtain⟨o,E,_,n,z⟩:=m
  obtain⟨G,c,_,H,a⟩:=k
  rw[E]at c
  cases c
  rw[z]at a
  injection a with a
  subst a
  rw[zX (Qit i g)]
  exact EqAt.same _
 .have C:=Vt i
  have B:=Vt g
  rw[xX]at C B
  have d:=RcAt.tuples (A:=A) (s:=s) (e:=fun j=>decide (ns[j]?=ms[j]?)) m k w fun j f q=>by
   obtain⟨x,t,D,r⟩:=Vs i j (by rw[xX];exact f)
   obtain⟨y,u,v,p⟩:=Vs g j (by rw[xX];exact q)
   rw[Array.getElem_toList]at r p
   rw[r,p,D,v]
   have:decide (some x=some y)=(x == y):=by
    rw[jXc,decide_eq_true_iff,beq_iff_eq]
    exists fun h=>Y5 h,fun h=>congrArg some h
   rw[this]
   exact EqAt.int_int x t y u
  have F:((List.range (min items.size items2.size)).all (fun j=>decide (ns[j]?=ms[j]?))&&items.size == items2.size)=decide (ns=ms):=by
   rw[jXc,decide_eq_true_iff,xV,jJd,beq_iff_eq]
   constructor
   .rintro⟨f,q⟩
    refine jZd fun j=>?_
    by_cases I:j<ns.length
    .exact kZ (f j (wZ.mpr Om))
    .rw[wX Om,wX Om]
   .rintro rfl
    exists fun j _=>zX rfl,Om
  rw[F]at d
  exact EqAt.of_refs e d
end
abbrev Row:=List Int×Int
def Zt(r q:Row):Bool:=if r.1=q.1 then decide (r.2<q.2)else decide (r.1<q.1)
theorem Qcd{r q:Row}:Zt r q=true↔r.1<q.1\/(r.1=q.1/\r.2<q.2):=by
 unfold Zt
 by_cases e:r.1=q.1
 .rw[Y22 e,decide_eq_true_iff]
  constructor
  .intro h;exact .inr ⟨e,h⟩
  .rintro(h | ⟨_,h⟩)
   .rw[e]at h;exact Y21 h (List.lt_irrefl _)
   .exact h
 .rw[Y20 e,decide_eq_true_iff]
  constructor
  .intro h;exact .inl h
  .rintro(h | ⟨h,_⟩)
   .exact h
   .exact Y21 h e
theorem Qhg(r:Row):Zt r r=false:=by
 rw[<-Bool.not_eq_true,Qcd]
 rintro(h | ⟨_,h⟩)
 .exact Y21 h (List.lt_irrefl _)
 .omega
theorem Qiu{a b c:Row}(e:Zt a b=true)(d:Zt b c=true):Zt a c=true:=by
 rw[Qcd]at *
 rcases e with e | ⟨g,e⟩<;>rcases d with d | ⟨f,d⟩
 .exact .inl (List.lt_trans e d)
 .exact .inl (f▸e)
 .exact .inl (g▸d)
 .exact .inr ⟨g.trans f,Om⟩
theorem Qce{a b:Row}(d:Zt a b=false)(c:Zt b a=false):a=b:=by
 rw[<-Bool.not_eq_true,Qcd]at d c
 have e:a.1=b.1:=List.le_antisymm (List.not_lt.mp fun z=>c (.inl z)) (List.not_lt.mp fun z=>d (.inl z))
 have f:a.2=b.2:=by
  have:¬a.2<b.2:=fun z=>d (.inr ⟨e,z⟩)
  have:¬b.2<a.2:=fun z=>c (.inr ⟨e.symm,z⟩)
  lia
 exact Prod.ext e f
def Vo(S:List Row)(x:Row):Int:=((S.countP fun y=>Zt y x:Nat):Int)
theorem Qkl{p q:Row->Bool}{x:Row}:∀{S:List Row},(∀y,p y=true->q y=true)->x∈S->p x=false->q x=true->S.countP p<S.countP q
 |y::S,h,hx,h1,h2=>by
  rw[List.countP_cons,List.countP_cons]
  have a:S.countP p<=S.countP q:=List.countP_mono_left fun z _=>h z
  rcases zK.mp hx with e | hx
  .subst e
   rw[h1,h2]
   simp
   lia
  .have:=Qkl h hx h1 h2
   have:(if p y=true then 1 else 0)<=(if q y=true then 1 else 0):=by
    by_cases e:p y=true
    .rw[Y22 e,Y22 (h y e)];exact jZ _
    .rw[Y20 e];exact jQf _
   lia
theorem Qos{S:List Row}{x y:Row}(i:x∈S)(f:y∈S):decide (Vo S x<Vo S y)=Zt x y:=by
 have d:∀{a b:Row},a∈S->Zt a b=true->Vo S a<Vo S b:=fun{a b} ha h=>by
  have:=Qkl (p:=fun y=>Zt y a) (q:=fun y=>Zt y b) (fun z g=>Qiu g h) ha (Qhg a) h
  unfold Vo
  lia
 cases e:Zt x y with
 |true=>exact zX (d i e)
 |false=>
  refine zJ fun z=>?_
  cases c:Zt y x with
  |true=>have:=d f c;lia
  |false=>rw[Qce e c]at z;lia
def RowIn(h:Heap)(v:Value)(r:Row):Prop:=∃(a b:Addr) (its:Array Value) (t:Tok),v=.ref a/\h.IsTuple a #[.ref b,.int r.2 t]/\h.IsTuple b its/\IntsAre its.toList r.1
theorem Qcf(k:∀b o,h.get? b=some o->h'.get? b=some o){its:Array Value}(z:h.IsTuple a its):h'.IsTuple a its:=by obtain⟨o,e,r⟩:=z;exists o,k _ _ e,r
theorem RowIn.ext(k:∀b o,h.get? b=some o->h'.get? b=some o){v:Value}{r:Row}(z:RowIn h v r):RowIn h' v r:=by
 obtain⟨a,b,c,t,e,d,g,f⟩:=z;exists a,b,c,t,e,Qcf k d,Qcf k g,f
section
variable{prog:Program}
theorem key_lt{x y:Value}{r q:Row}(p:RowIn s.heap x r)(B:RowIn s.heap y q)(G:A.units+1<cLine)(h:Q (Zt r q) s):qe prog w A (keyLt' (tuples' false) x y) Q E s:=by
 obtain⟨a,b,v,t,rfl,C,k,j⟩:=p
 obtain⟨D,I,i,F,rfl,z,l,g⟩:=B
 obtain⟨o,u,_,n,m⟩:=C
 obtain⟨H,d,_,J,c⟩:=z
 refine kat_lt u m d c (kat_cons (Qwz k l j g Om _ _ _ _ ?_))
 unfold Zt at h
 by_cases e:r.1=q.1
 .rw[Y22 e]at h
  rw[zX e]
  refine kat_yes (kat_cons (EqAt.int_int _ _ _ _ _ _ _ _ ?_))
  by_cases f:r.2=q.2
  .rw[show(r.2 == q.2)=true by simpa using f]
   refine kat_yes (kat_nil ?_)
   rw[f,zJ (Int.lt_irrefl _)]at h
   exact h
  .rw[show(r.2 == q.2)=false by simpa using f]
   exact kat_no (kat_one _ _ (lt_int h))
 .rw[Y20 e]at h
  rw[zJ e]
  exact kat_no (kat_one _ _ (Qwy k l j g Om h))
theorem Qhh{h:Heap}:∀{vs:List Value} {rs:List Row},Paired (RowIn h) vs rs->∃fs,KatTups h vs fs/\fs.length=vs.length/\∀f∈fs,∃b its,f=.ref b/\h.IsTuple b its
 |_,_,.nil=>⟨[],trivial,rfl,fun f hf=>nomatch hf⟩
 |_,_,.cons z r=>by
  obtain⟨a,b,its,t,rfl,⟨o,i,d,n,c⟩,g,j⟩:=z
  obtain⟨fs,k,l,p⟩:=Qhh r
  exists .ref b::fs,.cons i d c rfl k,by rw[zZ,zZ,l],fun f hf=>?_
  rcases zK.mp hf with e | hf
  .exact⟨b,its,e,g⟩
  .exact p f hf
theorem Qsx{vs:List Value}{rs:List Row}{Q:SortKind->Shared->Prop}(d:Paired (RowIn s.heap) vs rs)(f:0<vs.length)(h:Q (tuples' false) s):qe prog w A (keyKind' vs.toArray) Q E s:=by
 obtain⟨fs,k,l,p⟩:=Qhh d
 refine kat_kind (T:=.type "tuple") k Om (fun v hv=>?_) Dc h
 obtain⟨b,a,rfl,o,e,c,_⟩:=p v hv
 rw[<-c]
 exact(Looks.ld e).andThen .now
end
theorem Paired.getR{α β:Type}{R:α->β->Prop}{xs:List α}{ys:List β}(h:Paired R xs ys):∀{i:Nat} {x:α},xs[i]?=some x->∃y,ys[i]?=some y/\R x y:=by
 induction h with
 |nil=>intro i x e;simp at e
 |cons r t ih=>
  intro i x e
  cases i with
  |zero=>simp at e;subst e;exists 4,r
  |succ i=>obtain⟨y,b,a⟩:=ih (i:=i) (by simpa using e);exists y,by simpa using b,a
theorem Paired.pick{α β:Type}{R:α->β->Prop}{xs:List α}{ys:List β}(h:Paired R xs ys)(a:α)(b:β):∀(is:List Nat),(∀i∈is,i<xs.length)->Paired R (is.map fun i=>xs.getD i a) (is.map fun i=>ys.getD i b)
 |[],_=>.nil
 |i::is,hi=>by
  have c:=hi i kY
  obtain⟨y,k,f⟩:=Paired.getR h (gE c)
  have e:xs.getD i a=xs[i]:=by rw[jJ,gE c];rfl
  have d:ys.getD i b=y:=by rw[jJ,k];rfl
  refine .cons ?_ (Paired.pick h a b is fun j g=>hi j (zY _ g))
  show R (xs.getD i a) (ys.getD i b)
  rw[e,d];exact f
theorem Qcg{α:Type}(l:List α)(d:α):(List.range l.length).map (fun i=>l.getD i d)=l:=by
 refine jZd fun i=>?_
 rw[jY]
 by_cases a:i<l.length
 .rw[jYa a,gE a]
  show some (l.getD i d)=_
  rw[jJ,gE a];rfl
 .rw[wX (by rw[xK];lia),wX Om];rfl
theorem Qme{rs:List Row}(f:PermN rs.length p)(m:Qcc (fun i=>Vo rs (rs.getD i ([],0))) p rs.length) :
  (p.toList.map fun i=>rs.getD i ([],0)).Perm rs/\(p.toList.map fun i=>rs.getD i ([],0)).Pairwise fun x y=>Zt y x=false:=by
 have b:p.toList.Perm (List.range rs.length):=by simpa using Array.perm_iff_toList_perm.mp f
 have sz:=f.size
 have d:∀i,i<rs.length->rs.getD i ([],0)∈rs:=fun i a=>by
  rw[jJ,gE a];exact jXd a
 constructor
 .have:=b.map (fun i=>rs.getD i ([],0))
  rw[Qcg]at this
  exact this
 .rw[kYa,kZb]
  intro i j a e c
  rw[xX]at a e
  have u:=m i j (kYd c) Om
  have k:p.getD i 0=p.toList[i]:=by rw[wK,kZc a];rfl
  have g:p.getD j 0=p.toList[j]:=by rw[wK,kZc e];rfl
  unfold rk at u
  rw[k,g]at u
  dsimp only at u
  have h:p.toList[i]<rs.length:=wZ.mp (b.mem_iff.mp (jXd _))
  have l:p.toList[j]<rs.length:=wZ.mp (b.mem_iff.mp (jXd _))
  rw[<-Qos (S:=rs) (d _ l) (d _ h)]
  exact zJ Om
section
variable{prog:Program}
theorem Qot{vs:List Value}{rs:List Row}{Q:SortSt->Shared->Prop}(d:Paired (RowIn s.heap) vs rs)(g:2<=vs.length)(e:vs.length<64)(D:A.units+1<cLine)
  (h:∀(st':SortSt) (p:Array Nat),PermN vs.length p->(arrOf st').map (·.2)=List.toArray (p.toList.map fun i=>vs.getD i Value.none)->failedOf st'=none ->
   (p.toList.map fun i=>rs.getD i ([],0)).Perm rs->(p.toList.map fun i=>rs.getD i ([],0)).Pairwise (fun x y=>Zt y x=false)->Q st' s) :
  qe prog w A ((sortRuns').run (SortSt.mk' (tuples' false) (vs.toArray.zip vs.toArray) #[] 7 none)) (fun r s'=>Q r.2 s') E s:=by
 have m:vs.length=rs.length:=Paired.length d
 refine kat_run (G:=fun p s'=>s'=s/\PermN vs.length p/\Qcc (fun i=>Vo rs (rs.getD i ([],0))) p vs.length) rfl g e (fun p st' s' L g v I=>?_) ?_
 .obtain⟨rfl,c,b⟩:=I
  rw[m]at b
  have o:=Qme (m▸c) b
  exact h st' p c (kat_snds rfl g) v o.1 o.2
 .refine kGood.wp (f:=Jy fun i=>Vo rs (rs.getD i ([],0))) (n:=vs.length) (fun i j C l u F=>?_) (fun p J=>⟨rfl,J⟩) _ (Qor Om)
  obtain⟨r,k,K⟩:=Paired.getR d (gE l)
  obtain⟨q,t,B⟩:=Paired.getR d (gE u)
  have z:vs.getD i Value.none=vs[i]:=by rw[jJ,gE l];rfl
  have H:vs.getD j Value.none=vs[j]:=by rw[jJ,gE u];rfl
  have c:rs.getD i ([],0)=r:=by rw[jJ,k];rfl
  have b:rs.getD j ([],0)=q:=by rw[jJ,t];rfl
  unfold kas_ask
  rw[z,H]
  refine key_lt K B D ?_
  rw[<-Qos (S:=rs) (kX k) (kX t)]
  have a:C (decide (Vo rs (rs.getD i ([],0))<Vo rs (rs.getD j ([],0)))) s:=F
  rw[c,b]at a
  exact a
theorem Qou{vs:List Value}{rs:List Row}{P:PySem.Fin->Shared->Prop}(u:s.heap.get? a=some (seqObj "list" vs.toArray n)){h₀:Heap}(ext:∀b o,h₀.get? b=some o->b≠a/\s.heap.get? b=some o)(F:Paired (RowIn h₀) vs rs)
  (C:vs.length<64) (L:A.units+1<cLine)
  (h:∀(p:List Nat),(∀i∈p,i<vs.length)->(p.map fun i=>rs.getD i ([],0)).Perm rs->(p.map fun i=>rs.getD i ([],0)).Pairwise (fun x y=>Zt y x=false) ->
   P (.done (.ret .none)) { s with heap:=sortedHeap s.heap a vs (List.toArray (p.map fun i=>vs.getD i Value.none)) }) :
  qe prog w A (Builtin.«list.sort» ⟨[.ref a],[]⟩) P E s:=by
 have O:vs.length=rs.length:=Paired.length F
 have V:a<(qa s):=yK u
 obtain⟨l,m⟩:∃l,(s.heap.update a (Obj.mapSeq fun _=>#[])).get? a=some (seqObj "list" #[] l):=⟨_,get?_update_seq u (fun _=>#[])⟩
 have keep:∀b o,h₀.get? b=some o->((qD 0).push (seqObj "list" #[] 0)).get? b=some o:=fun b o e=>by
  obtain⟨R,l⟩:=ext b o e
  refine jV _ (jV _ ?_)
  rw[Heap.get?_update_ne _ _ _ _ R];exact l
 have q:((qD 0).push (seqObj "list" #[] 0)).get? a=some (seqObj "list" #[] l):=jV _ (jV _ m)
 have fin:∀(c:SortSt) (g:List Value),(arrOf c).map (·.2)=List.toArray g->failedOf c=none->g.length=vs.length->P (.done (.ret .none)) { s with heap:=sortedHeap s.heap a vs (List.toArray g) } ->
   qe prog w A (do
    let f:=(arrOf c).map (·.2)
    let d:=(← seqEpoch a) != l
    Builtin.List.listUpdate (.ref a) fun _=>f
    if let some e:=failedOf c then rule "list.sort.comparison-raised";throw e
    if d then rule "list.sort.modified";raiseError "ValueError" "list modified during sort"
    ret .none) P E { s with heap:=(qD 0).push (seqObj "list" #[] 0) }:=fun c g B k D v=>by
  dsimp only
  rw[B]
  refine jX (seqEpoch_at q rfl ?_)
  refine jX (listUpdate_at q rfl ?_ (hsz2:=by rw[kQ,sizeLine_eq];lia))
  rw[k]
  simp only[bne_self_eq_false,yZ,if_false]
  exact jK v
 rw[list_sort_plain]
 refine jX (listItems_at u rfl ?_)
 refine jX (listUpdate_at u rfl ?_)
 refine jX (seqEpoch_at m rfl ?_)
 refine jX (wpAny_newTuple ?_)
 refine jX (wpAny_newList ?_)
 refine Y30 ?_
 show qe prog w A _ P E { s with heap:=(qD 0).push (seqObj "list" #[] 0) }
 dsimp only
 have K:vs.toArray.size=vs.length:=by simp
 by_cases k:vs.toArray.size<2
 .rw[Y22 k,Y22 k]
  refine jX (jK ?_)
  rw[StateT.run_pure]
  refine jX (jK ?_)
  have one:(List.range vs.length).map (fun i=>rs.getD i ([],0))=rs:=by rw[O];exact Qcg _ _
  have o:=h (List.range vs.length) (fun i t=>wZ.mp t) (by rw[one]) (by
   rw[one,kZb]
   intro i j t W U
   lia)
  rw[Qcg]at o
  refine fin (SortSt.mk' general' (vs.toArray.zip vs.toArray) #[] 7 none) vs ?_ rfl rfl o
  show(vs.toArray.zip vs.toArray).map (·.2)=_
  apply Array.toList_inj.mp
  simp
  exact List.map_snd_zip (jZ _)
 .rw[Y20 k,Y20 k]
  have r:Paired (RowIn ((qD 0).push (seqObj "list" #[] 0))) vs rs:=Paired.imp' (fun _ _ z=>RowIn.ext keep z) F
  refine jX (Qsx (s:={ s with heap:=(qD 0).push (seqObj "list" #[] 0) }) r Om ?_)
  refine jX (Y29 (Qot (s:={ s with heap:=(qD 0).push (seqObj "list" #[] 0) })
   (Q:=fun c G=>G={ s with heap:=(qD 0).push (seqObj "list" #[] 0) }/\∃p:Array Nat,PermN vs.length p/\(arrOf c).map (·.2)=List.toArray (p.toList.map fun i=>vs.getD i Value.none)/\failedOf c=none /\
    (p.toList.map fun i=>rs.getD i ([],0)).Perm rs/\(p.toList.map fun i=>rs.getD i ([],0)).Pairwise (fun x y=>Zt y x=false))
   r Om C L fun c p B k D v J=>⟨rfl,p,B,k,D,v,J⟩) ?_ fun _ _ e=>e)
  rintro⟨⟨⟩,c⟩ G ⟨rfl,p,H,N,S,I,T⟩
  have M:p.toList.Perm (List.range vs.length):=by simpa using Array.perm_iff_toList_perm.mp H
  refine fin c _ N S (by rw[jQ,xX,H.size]) (h p.toList (fun i t=>wZ.mp (M.mem_iff.mp t)) I T)
theorem Qiv{vs:List Value}{rs:List Row}{Q:VP}(k:s.heap.IsList l vs.toArray)(n:Paired (RowIn s.heap) vs rs)(f:vs.length<64)(r:A.units+3<cLine)
  (h:∀(p:List Nat),(∀i∈p,i<vs.length)->(p.map fun i=>rs.getD i ([],0)).Perm rs->(p.map fun i=>rs.getD i ([],0)).Pairwise (fun x y=>Zt y x=false) ->
   Q (.ref ((qa s)+1)) { s with heap:=sortedAll s.heap vs (List.toArray (p.map fun i=>vs.getD i Value.none)) }) :
  qe prog w A (call (.builtin "sorted") [.ref l]) Q E s:=by
 refine Calls.call_function_entry kind_sorted plain_sorted entry_sorted (args_sorted1 _) ?_
 unfold Builtin.«sorted»
 refine jX (m:=checkCount "sorted" 1 1 _) (jK ?_)
 refine jX (collect_list k ?_)
 refine jX (wpAny_newList ?_)
 have c:((s.heap.push (seqObj "list" #[] 0)).update (qa s) (Obj.mapSeq (· ++ vs.toArray))).objs.size=(qa s)+1:=by
  rw[Heap.size_update,size_push']
 have d:(((s.heap.push (seqObj "list" #[] 0)).update (qa s) (Obj.mapSeq (· ++ vs.toArray))).push (seqObj "list" vs.toArray 0)).get? ((qa s)+1)=some (seqObj "list" vs.toArray 0):=by
  rw[<-c];exact yJ _ rfl
 have keep:∀b o,s.heap.get? b=some o->b≠(qa s)+1/\(((s.heap.push (seqObj "list" #[] 0)).update (qa s) (Obj.mapSeq (· ++ vs.toArray))).push (seqObj "list" vs.toArray 0)).get? b=some o:=fun b o e=>by
  have a:b<(qa s):=yK e
  exists zV (kQb a),jV _ ?_
  rw[Heap.get?_update_ne _ _ _ _ (zV a)]
  exact jV _ e
 show wpAny _ _ _ _ _ { s with heap:=((s.heap.push (seqObj "list" #[] 0)).update (qa s) (Obj.mapSeq (· ++ vs.toArray))).push (seqObj "list" vs.toArray 0) }
 rw[c]
 refine jX (Y30 (Y25 slot_list_sort ⟨_,d,rfl⟩ entry_list_sort (Qou (s:={ s with heap:=((s.heap.push (seqObj "list" #[] 0)).update (qa s) (Obj.mapSeq (· ++ vs.toArray))).push (seqObj "list" vs.toArray 0) }) d keep n f (by show A.units+1+1+1<cLine;lia) fun p q j g=>⟨_,rfl,?_⟩) (args_list_sort _)))
 exact jK ⟨_,rfl,h p q j g⟩
end
theorem Qsy(I:qI H s){t:Addr}{r:Row}(h:Nb.RowAt X.K H t r):RowIn s.heap (.ref t) r:=by
 obtain⟨p,f,d⟩:=h
 obtain⟨c,g,k,_⟩:=I.tuple f
 obtain⟨a,e,j,_⟩:=I.tuple d
 obtain⟨u,m,rfl,i,b⟩:=Vals.two g
 cases i
 obtain⟨l,rfl⟩:=b
 exists t,p,a.toArray,l,rfl,k,j,intsAre_of e
theorem Qov(I:qI H s):∀{vs:List V} {us:List Value} {rs:List Row},Vals vs us->Nb.RowsAre X.K H vs rs->Paired (RowIn s.heap) us rs:=by
 intro vs us rs hv h
 unfold Nb.RowsAre at h
 induction h generalizing us with
 |nil=>have e:=hv.nil_iff.mpr rfl;subst e;exact .nil
 |cons z t ih=>
  obtain⟨a,rfl,z⟩:=z
  cases hv with
  |cons ru rr=>
   cases ru
   exact .cons (Qsy I z) (ih rr)
theorem Jm(F:X.K=K)(J:X.A.units+6<cLine):Jb X (.builtin "sorted") (fun xs H Q=>∃(l:Addr) (vs:List V) (rs:List Row),xs=[.ref l]/\SqL K H l vs/\Nb.RowsAre K H vs rs/\vs.length<64 /\
  ∀(D:Addr) (ws:List V) (qs:List Row),H D=none->Nb.RowsAre K H ws qs->ws.length=vs.length->qs.Perm rs->qs.Pairwise (fun x y=>Zt y x=false)->Q (.ref D) (upd H D (.lst ws))):=by
 subst F
 intro g s L H xs M Q I B h
 obtain⟨l,vs,rs,rfl,v,c,w,q⟩:=h
 obtain⟨u,rfl,E⟩:=B.one
 cases E
 obtain⟨a,r,p,N⟩:=I.list v
 have k:vs.length=a.length:=r.length
 refine Qiv p.isList (Qov I r c) Om Om fun o f j m=>?_
 obtain⟨e,n⟩:=sortedAll_at s.heap a (List.toArray (o.map fun i=>a.getD i Value.none))
 have C:o.length=vs.length:=by
  have:=j.length_eq
  rw[jQ]at this
  rw[this];exact(Nb.RowsAre.length c).symm
 exists .ref ((qa s)+1),_,I.laid (t':=s.toks) (o:=.lst (o.map fun i=>vs.getD i .non)) (fun b G z=>sortedAll_old z) (yQb _) ⟨by rw[jQ];lia,_,e,?_,n⟩,rfl,q _ _ _ (I.hok.fresh (yQb _)) ?_ (by rw[jQ];exact C) j m
 .exact Paired.pick r .non Value.none o fun i d=>by rw[k];exact f i d
 .exact Paired.pick c .non ([],0) o fun i d=>by rw[k];exact f i d
end L2
namespace L2
open PySem PySem.Spec PyProof.Rows PySem.W
structure Tab(w:World)(K:Frag)(mg:Z9)(x:Str)(a:Addr)(f:Z9):Prop where
 bound:mg x=some (.ref a)
 map:∀(P:Program) (h:Heap),K.In h->h.MapOf (strKind P w) a f
 low:(a == sysModules)=false
theorem Qvp{K:Frag}{es:Array DictEntry}(b:mg x=some (.ref a))(d:K.lookup a=some ⟨.type "dict",none,.dict es n,#[]⟩)(c:KeysLit w.params es.toList)(lo:(a == sysModules)=false) :
  Tab w K mg x a (fun k=>findBy Value.isStrOf es k):=⟨b,fun P h X=>mapOf_K (prog:=P) X d c,lo⟩
def rTab(a:Addr)(f:Z9):R2:=fun x y H Q=>∃s v z,x=.ref a/\y=.str s/\f s=some v/\RelV z v/\Q z H
theorem Qow{f:Z9}{i:Expr}{ti:TE}{p:Pos}(T:Tab X.w X.K X.mg x a f)(l:PE X i ti)(j:qb (Gl X x))(hd:qc ((x == ("__debug__":Str))=false)) :
  PC X .NotIn i (.Name x p) (fun σ H Q=>ti σ H fun y H1=>∃s,y=.str s/\Q (.bl (!(f s).isSome)) H1):=by
 intro b s σ H Q I h
 refine thn (l b s σ H _ I h) fun iv s1 ⟨y,H1,I1,ry,z,ey,q1⟩=>thn (Qij (v:=.ref a) j T.bound rfl hd b s1 σ H1 (fun v d=>v=.ref a/\d=H1) I1 ⟨rfl,rfl⟩) fun u o c=>?_
 obtain⟨n,d,e,g,m,k⟩:=c
 subst ey m k
 cases g
 obtain⟨t,rfl⟩:=ry
 exact wpAny_notIn_of (knd:=strKind X.prog X.w) (strKind_is X.prog X.w z t) T.low (T.map X.prog _ e.kIn) ⟨.bl _,d,e.tok _,rfl,q1⟩
theorem Qvq{f:Z9}(T:Tab X.w X.K X.mg x a f):IxR X (rTab a f):=by
 intro b c d s m H x y v u Q I i l h k
 obtain⟨z,n,r,rfl,rfl,g,j,q⟩:=h
 cases i
 obtain⟨t,rfl⟩:=l
 have e:=T.map X.prog _ I.kIn
 exact tail_any e.typeIs slot_dict_getitem.lookup (wpAny_getItem_of (strKind_is X.prog X.w z t) e g ⟨r,H,I.tok _,j,q⟩) k
def TabOk(P:Program)(w:World)(K:Frag)(mg:Z9)(base:Heap)(k:Nat)(f:Z9)(ps:List Str)(sp:Str->Sp):Prop :=
 ∀s v,f s=some v->∃fa fd,v=.ref fa/\FnOk P w K mg base CX0 k fa fd ps (sp s)/\keepIn K (.ref fa)=true/\Binds K fd ps []
theorem Qmf{f:Z9}{i:Expr}{ti:TE}{t:TA}{k:Nat}{ps:List Str}{sp:Str->Sp}{p p2:Pos}(T:Tab X.w X.K X.mg x a f)(N:TabOk X.prog X.w X.K X.mg X.base k f ps sp)(n:Room k X.A)(u:PE X i ti)(D:Qnq i)(E:PA X (e::es) t)
  (L:qb (Gl X x)) (hd:qc ((x == ("__debug__":Str))=false)) (he:qb (starEach (e::es) X.env=(false,eval e X.env)::starEach es X.env)) (g:qb ((backTo pos (starEach es X.env)).any (·.1)=false))
  (j:qb (eval (.Call (.Subscript (.Name x p) i p2) (e::es) [] pos) X.env=(do callWith pos (← eval (.Subscript (.Name x p) i p2) X.env) [] (backTo pos (starEach (e::es) X.env)) (backToKw pos (keywordEach [] X.env))))) :
  PE X (.Call (.Subscript (.Name x p) i p2) (e::es) [] pos) (fun σ H Q=>tOp (rTab a f) (tC (.ref a)) ti σ H fun z H1=>∃s fa,z=.ref fa/\f s=some (.ref fa)/\Qnm (sp s) [] E0 t σ H1 Q):=by
 intro c s σ H Q I h
 refine Call_ (thn ((Qo (pos:=p2) (Qvq T) (Qij (pos:=p) (v:=.ref a) L T.bound rfl hd) u D) c s σ H _ I h) fun P J d=>?_) j
 obtain⟨z,H1,l,C,M,fa,y,G,q⟩:=d
 subst y
 cases C
 obtain⟨o,O,B,F,m,b⟩:=N M _ G
 cases B
 exact callWith_K (h₀:=X.base) I.ok.mod.kin m (thn (E pos c J σ H1 _ l q) fun us s2 ⟨vs,H2,I2,r,q2⟩=>⟨I2.kIn,Qnn F n b .nil Qwn I2 r q2⟩) he g
theorem Qch(m:X.calm=true):Jb X (.type "set") (fun xs H Q=>∃(l:Addr) (ns:List Int),xs=[.ref l]/\SqL X.K H l (ns.map V.int)/\ns.length<4000/\∀(d:Addr) (S:Int->Bool),H d=none->Q (.ref d) (upd H d (.set S (ns.foldl step_dedup []).length))):=by
 intro g s A H xs D Q I x h
 obtain⟨l,ns,rfl,n,E,q⟩:=h
 obtain⟨u,rfl,y⟩:=x.one
 cases y
 obtain⟨a,r,j,_⟩:=I.list n
 have f:=r.length
 rw[jQ]at f
 have p:(List.range a.toArray.size).map (fun i=>ns.getD i 0)=ns:=by
  rw[kQ,<-f]
  apply jZd
  intro i
  by_cases c:i<ns.length
  .rw[jY,jYa c,gE c]
   show some (ns.getD i 0)=_
   rw[jJ,gE c];rfl
  .rw[jXe.mpr (by rw[jQ,xK];lia),jXe.mpr Om]
 refine call_set_list (I.ok.hd m) j.isList (ns:=ns) (by simpa using intsAre_of r) (by rw[kQ];show a.length+1<4096;lia) fun B C t v=>?_
 have w:(firstMet (fun i=>ns.getD i 0) a.toArray.size).length=(ns.foldl step_dedup []).length:=by unfold firstMet;rw[p]
 exists .ref _,_,I.laid (o:=.set (fun z=>(firstMet (fun i=>ns.getD i 0) a.toArray.size).any (· == z)) (ns.foldl step_dedup []).length) (fun b o e=>v b o (yK e) e) (jZ _) ?_,rfl,q _ _ (I.hok.fresh (jZ _))
 rw[<-w]
 exact t
theorem Wh:Jb X (.builtin "len") (fun xs H Q=>∃(d:Addr) (S:Int->Bool) (n:Nat),xs=[.ref d]/\H d=some (.set S n)/\Q (.int (n:Nat)) H):=by
 intro c s p H xs r Q I i h
 obtain⟨d,S,n,rfl,g,q⟩:=h
 obtain⟨u,rfl,l⟩:=i.one
 cases l
 obtain⟨o,f,v,t,m,b,a,_,_,k,e,j⟩:=I.hok d _ g
 subst j
 refine call_len_set m b a e ?_ ⟨.int _,H,I.tok _,⟨_,rfl⟩,q⟩
 have:f.size<4096:=k
 lia
theorem Qar:∀{ns:List Int} {us:List Value},IntsAre us ns->Vals (ns.map V.int) us:=by
 intro ns us h
 induction h with
 |nil=>exact .nil
 |cons=>rename_i a;exact .cons ⟨_,rfl⟩ a
theorem Qas{K:Frag}(A:X.K=K):Jb X (.builtin "sorted") (fun xs H Q=>∃(l:Addr) (ns:List Int),xs=[.ref l]/\SqL K H l (ns.map V.int)/\ns.length<64 /\
  ∀(D:Addr) (qs:List Int),H D=none->qs.Perm ns->qs.Pairwise (·<=·)->Q (.ref D) (upd H D (.lst (qs.map V.int)))):=by
 subst A
 intro i s E H xs G Q I x h
 obtain⟨l,ns,rfl,n,w,q⟩:=h
 obtain⟨u,rfl,y⟩:=x.one
 cases y
 obtain⟨f,r,p,J⟩:=I.list n
 have B:=r.length
 rw[jQ]at B
 refine sorted_ints p.isList (intsAre_of r) Om fun d a v j k=>?_
 obtain⟨e,m⟩:=sortedAll_at s.heap f d
 have hv:=Qar v
 have F:a.length=ns.length:=j.length_eq
 exists"z"
 have c:(a.map V.int).length<=sizeLine:=by rw[jQ];lia
 exists .ref ((qa s)+1),_,I.laid (t':=s.toks) (o:=.lst (a.map V.int)) (fun b C z=>sortedAll_old z) (yQb _) ⟨c,d.toList,e,hv,by simpa using m⟩,rfl,q _ a (I.hok.fresh (yQb _)) j k
theorem Qxa:PIp X .Mult (fun x y H Q=>∃i j,x=.int i/\y=.int j/\CMul i j/\Q (.int (i*j)) H):=by
 intro a s g H x y v u Q I d c h
 obtain⟨i,j,f,b,e,q⟩:=h
 subst f;subst b
 obtain⟨t,rfl⟩:=d
 obtain⟨k,rfl⟩:=c
 exact imul_int ⟨.int _,H,I.tok _,⟨_,rfl⟩,q⟩ e.ok
theorem Qox:bootBuiltins "set"=some (.type "set"):=Dk
theorem bt_str:bootBuiltins "str"=some (.type "str"):=Dk
theorem Qci(ns:List Int):(ns.foldl step_dedup []).length=ns.length↔ns.Nodup:=by
 have d:∀(l b:List Int),(l.foldl step_dedup b).length<=b.length+l.length/\((l.foldl step_dedup b).length=b.length+l.length↔l.Nodup/\∀x∈l,x∉b):=by
  intro l
  induction l with
  |nil=>intro b;exists jZ _,by simp
  |cons a t ih=>
   intro b
   rw[kXd]
   by_cases h:a∈b
   .have e:step_dedup b a=b:=by
     unfold step_dedup
     rw[Y22 (by simpa using h)]
    rw[e]
    obtain⟨i,f⟩:=ih b
    exists by rw[zZ];lia,⟨fun z=>by rw[zZ]at z;lia,fun z=>Y21 h (z.2 a kY)⟩
   .have e:step_dedup b a=b++[a]:=by
     unfold step_dedup
     rw[Y20 (by simpa using h)]
    rw[e]
    obtain⟨i,f⟩:=ih (b++[a])
    rw[yQ,yYb]at i f
    exists by rw[zZ];lia,?_
    rw[zZ,show b.length+(t.length+1)=b.length+1+t.length by lia,f,jYb]
    constructor
    .rintro⟨g,c⟩
     exists ⟨fun j=>c a j (by simp),g⟩,fun x hx=>?_
     rcases zK.mp hx with rfl | hx
     .exact h
     .exact fun z=>c x hx (kQa _ z)
    .rintro⟨⟨k,g⟩,c⟩
     exists g,fun x hx z=>?_
     rcases xW.mp z with z | z
     .exact c x (zY _ hx) z
     .have:x=a:=by simpa using z
      exact k (this▸hx)
 have:=(d ns []).2
 simpa using this
theorem Zk(n:Nat):(Builtin.Range.rangeSize ((n:Int)-1) (-1) (-1)).toNat=n:=by
 unfold Builtin.Range.rangeSize
 rw[Y20 Dc]
 split
 .have:(((n:Int)-1)-(-1)-1) / (-(-1))=(n:Int)-1:=by rw[show(-(-1):Int)=1 from rfl,Int.ediv_one];lia
  lia
 .simp;lia
theorem Wi(h:n<=1000000):Builtin.Range.small ((n:Int)-1) (-1) (-1)=true:=by
 have a:=Zk n
 have b:=Qcb ((n:Int)-1) (-1) (-1) Dc
 unfold Builtin.Range.small
 simp only[Builtin.Range.rangeFitsLong,xV,jZe,decide_eq_true_eq,beq_iff_eq,show ¬((-1:Int) > 0)by decide,if_false]
 lia
end L2
namespace L2
open PySem
theorem lenS{α:Type}{l:List α}(h:l.length=n+1):∃a t,l=a::t/\t.length=n:=by
 cases l with
 |nil=>exact Y21 h (jQc n).symm
 |cons a t=>exists a,t,rfl,Nat.succ.inj h
theorem len1{α:Type}{l:List α}(h:l.length=1):∃a,l=[a]:=by
 obtain⟨a,t,rfl,b⟩:=lenS h
 exists a,congrArg _ (kQf.mp b)
theorem len2{α:Type}{l:List α}(h:l.length=2):∃a b,l=[a,b]:=by
 obtain⟨a,t,rfl,c⟩:=lenS h
 obtain⟨b,rfl⟩:=len1 c
 exists a,b,rfl
theorem len3{α:Type}{l:List α}(h:l.length=3):∃a b c,l=[a,b,c]:=by
 obtain⟨a,t,rfl,d⟩:=lenS h
 obtain⟨b,c,rfl⟩:=len2 d
 exists a,b,c,rfl
theorem len4{α:Type}{l:List α}(h:l.length=4):∃a b c d,l=[a,b,c,d]:=by
 obtain⟨a,t,rfl,e⟩:=lenS h
 obtain⟨b,c,d,rfl⟩:=len3 e
 exists a,b,c,d,rfl
theorem len5{α:Type}{l:List α}(h:l.length=5):∃a b c d e,l=[a,b,c,d,e]:=by
 obtain⟨a,t,rfl,f⟩:=lenS h
 obtain⟨b,c,d,e,rfl⟩:=len4 f
 exists a,b,c,d,e,rfl
theorem bind1{F:List Value->Prop}(h:∀a,F [a]):∀us:List Value,us.length=1->F us:=fun us b=>by
 obtain⟨a,rfl⟩:=len1 b
 exact h a
theorem Zn{F:List Value->Prop}(h:∀a b,F [a,b]):∀us:List Value,us.length=2->F us:=fun us c=>by
 obtain⟨a,b,rfl⟩:=len2 c
 exact h a b
theorem Qdi{F:List Value->Prop}(h:∀a b c,F [a,b,c]):∀us:List Value,us.length=3->F us:=fun us d=>by
 obtain⟨a,b,c,rfl⟩:=len3 d
 exact h a b c
theorem Qba{F:List Value->Prop}(h:∀a b c d,F [a,b,c,d]):∀us:List Value,us.length=4->F us:=fun us e=>by
 obtain⟨a,b,c,d,rfl⟩:=len4 e
 exact h a b c d
theorem bind5{F:List Value->Prop}(h:∀a b c d e,F [a,b,c,d,e]):∀us:List Value,us.length=5->F us:=fun us f=>by
 obtain⟨a,b,c,d,e,rfl⟩:=len5 f
 exact h a b c d e
theorem Zd{D:Ends}(h:let r3:TS:=s3;let r2:TS:=tSeq s2 r3;tSeq s1 r2 D σ H):(tSeq s1 (tSeq s2 (s3))) D σ H:=h
theorem Zl{D:Ends}(h:let r4:TS:=s4;let r3:TS:=tSeq s3 r4;let r2:TS:=tSeq s2 r3;tSeq s1 r2 D σ H):(tSeq s1 (tSeq s2 (tSeq s3 (s4)))) D σ H:=h
theorem Wj{D:Ends}(h:let r5:TS:=s5;let r4:TS:=tSeq s4 r5;let r3:TS:=tSeq s3 r4;let r2:TS:=tSeq s2 r3;tSeq s1 r2 D σ H):(tSeq s1 (tSeq s2 (tSeq s3 (tSeq s4 (s5))))) D σ H:=h
theorem Qsz{D:Ends}(h:let r6:TS:=s6;let r5:TS:=tSeq s5 r6;let r4:TS:=tSeq s4 r5;let r3:TS:=tSeq s3 r4;let r2:TS:=tSeq s2 r3;tSeq s1 r2 D σ H):(tSeq s1 (tSeq s2 (tSeq s3 (tSeq s4 (tSeq s5 (s6)))))) D σ H:=h
theorem Qew{s7:TS}{D:Ends}(h:let r7:TS:=s7;let r6:TS:=tSeq s6 r7;let r5:TS:=tSeq s5 r6;let r4:TS:=tSeq s4 r5;let r3:TS:=tSeq s3 r4;let r2:TS:=tSeq s2 r3;tSeq s1 r2 D σ H):(tSeq s1 (tSeq s2 (tSeq s3 (tSeq s4 (tSeq s5 (tSeq s6 (s7))))))) D σ H:=h
theorem Qta{s7 s8 s9:TS}{D:Ends}(h:let r9:TS:=s9;let r8:TS:=tSeq s8 r9;let r7:TS:=tSeq s7 r8;let r6:TS:=tSeq s6 r7;let r5:TS:=tSeq s5 r6;let r4:TS:=tSeq s4 r5;let r3:TS:=tSeq s3 r4;let r2:TS:=tSeq s2 r3;tSeq s1 r2 D σ H):(tSeq s1 (tSeq s2 (tSeq s3 (tSeq s4 (tSeq s5 (tSeq s6 (tSeq s7 (tSeq s8 (s9))))))))) D σ H:=h
end L2
namespace L2
open PySem PySem.Spec PyProof.Rows PySem.SeqAt
theorem op_eqW(U:X.A.units+6<cLine):OpR X (compareOp .Eq) (fun x y H Q=>∃(a b:Addr) (s s':Str) (xs:List V),x=.ref a/\y=.ref b/\SqT X.K H a (.str s::xs)/\SqT X.K H b [.str s']/\∀c:Bool,(c=true↔(s=s'/\xs=[]))->Q (.bl c) H):=by
 intro E S W H x y v u Q I P J h
 obtain⟨a,b,s,s',xs,rfl,rfl,l,m,q⟩:=h
 cases P
 cases J
 obtain⟨f,r,pt,_⟩:=I.tuple l
 obtain⟨d,B,n,_⟩:=I.tuple m
 have O:=r.length
 have N:=B.length
 obtain⟨T,D,w⟩:=r.get (i:=0) (x:=.str s) rfl
 obtain⟨Y,F,o⟩:=B.get (i:=0) (x:=.str s') rfl
 obtain⟨C,rfl⟩:=w
 obtain⟨G,rfl⟩:=o
 have p:f.length=xs.length+1:=by rw[<-O];rfl
 have z:d.length=1:=by rw[<-N];rfl
 have t:∀j (l:j<f.toArray.size) (m:j<d.toArray.size),EqAt X.A.in1 S f.toArray[j] d.toArray[j] (s == s'):=fun j l m=>by
  rw[kQ]at l m
  have L:j=0:=Om
  subst L
  have k:f.toArray[0]=.str s C:=by rw[gE Om]at D;simpa using D
  have g:d.toArray[0]=.str s' G:=by rw[gE Om]at F;simpa using F
  rw[k,g]
  exact EqAt.str_str s C s' G
 have M:=RcAt.tuples (A:=X.A) pt n Om (e:=fun _=>s == s') t
 refine M _ _ _ _ ⟨.bl _,H,I,rfl,q _ ?_⟩
 rw[xV,Vz,kQ,kQ,p,z]
 constructor
 .rintro⟨k,g⟩
  have R:xs.length+1=1:=eq_of_beq g
  exists eq_of_beq (k 0 Om),jJe Om
 .rintro⟨k,g⟩
  subst k g
  exists fun _ _=>beq_self_eq_true _,rfl
theorem Xx{α β:Type}{R:α->β->Prop}{xs:List α}{ys:List β}(h:Paired R xs ys):∀{i:Nat} {x:α},xs[i]?=some x->∃y,ys[i]?=some y/\R x y:=by
 induction h with
 |nil=>intro i x e;exact nomatch e
 |cons z _ ih=>
  intro i x e
  match i with
  |0=>cases e;exists 4,z
  |i+1=>exact ih (show _=some x from e)
theorem Qxb{vs:List (Key×Value)}(h:KV kvs vs):kvs.map (·.1)=vs.map (·.1):=by
 induction h with
 |nil=>rfl
 |cons h _ ih=>rw[xZ,xZ,ih,h.1]
open PySem.MeetsSeq PySem.MeetsSeq2 PySem.MeetsSeq3 in
open AutoSeq1 (wpAny_loadPart') in
open PySem.MeetsSeq PySem.MeetsSeq2 PySem.MeetsSeq3 in
open AutoSeq1 (wpAny_loadPart') in
theorem is_kV{k:Key}(h:(Xw P w).is k u=true):RelV (kV k) u:=by
 rw[Qlq]at h
 rcases Yc h with⟨i,t,rfl,rfl⟩ | ⟨x,t,rfl,rfl⟩
 .exact⟨t,rfl⟩
 .exact⟨t,rfl⟩
section
variable{prog:Program}{a₀:Array Keyed}
theorem Qmg{st:SortSt}{Q:Option Nat->SortSt->Prop}(l:IntKeys a₀)(b:SBase a₀ st)(G:2<=a₀.size)(k:∀i,1<=i->i<a₀.size->PyProof.Rows.K (arrOf st) i<PyProof.Rows.K (arrOf st) (i-1))
  (h:∀st',SBase a₀ st'->SortedTo (arrOf st') a₀.size->Q (some a₀.size) st'):wpS (model prog w) A E s (countRun' 0 a₀.size) Q st:=by
 rw[countRun0_eq]
 refine wpS_bind (wpS_ascLoop l (jZ _) (jZ 1) Om b (fun i j o D=>by obtain rfl:i=j:=Om;exact kQc _) fun n q v e _=>?_)
 have z:n=1:=by
  by_cases c:n=1
  .exact c
  .have F:=e 0 1 Om Om
   have p:=k 1 (jZ _) Om
   rw[show 1-1=0 from rfl]at p
   lia
 subst z
 dsimp only
 rw[Y20 (by rw[beq_iff_eq];lia),Y20 Om]
 unfold descPart
 refine wpS_bind (wpS_lift (wpAny_rule ⟨rfl,?_⟩))
 unfold descLoop
 refine wpS_bind (wpS_forRange (I:=fun x c st'=>st'=st/\c=((none,x,0):DescSt)) ?_ ?_ ⟨rfl,rfl⟩)
 .rintro x c st' C f ⟨rfl,rfl⟩
  dsimp only
  refine wpS_bind (wpS_ltK b l Om Om ?_)
  simp only[k x Om f,decide_true,if_true]
  rw[Y20 Om]
  exact wpS_pure ⟨rfl,rfl⟩
 rintro c st' ⟨rfl,rfl⟩
 rw[show max (1+1) a₀.size=a₀.size by lia]
 dsimp only
 rw[Y20 Om]
 unfold tail3
 refine wpS_bind (wpS_reverse ?_)
 have a:SBase a₀ (setArr st' (mirror (arrOf st') 0 a₀.size ((a₀.size-0) / 2))):=b.setArr (mirror_perm _ _ _ _)
 have y:∀d i,i+d<a₀.size->PyProof.Rows.K (arrOf st') (i+d)<=PyProof.Rows.K (arrOf st') i:=fun d=>by
  induction d with
  |zero=>exact fun i _=>kQc _
  |succ d ih=>
   intro i t
   have B:=k (i+(d+1)) Om t
   have H:=ih i Om
   rw[show i+(d+1)-1=i+d by lia]at B
   lia
 refine wpS_bind (wpS_ascLoop l (jZ _) Om (jZ _) a (fun i j o D=>?_) fun m r u g _=>?_)
 .show PyProof.Rows.K (mirror (arrOf st') 0 a₀.size ((a₀.size-0) / 2)) i<=PyProof.Rows.K (mirror (arrOf st') 0 a₀.size ((a₀.size-0) / 2)) j
  rw[K_mirror (by rw[b.size];exact jZ _),K_mirror (by rw[b.size];exact jZ _),Y22 Om,Y22 Om]
  have:=y (j-i) (0+a₀.size-1-j) Om
  rwa [show 0+a₀.size-1-j+(j-i)=0+a₀.size-1-i by lia]at this
 .obtain rfl:m=a₀.size:=Om
  exact wpS_pure (h _ a g)
theorem Qoy:∀(f n r:Nat),r<=1->1<=f->n<=f->minRun' f n r<=n+r:=fun f=>by
 induction f with
 |zero=>intro n r _ h;exact Y21 h Dc
 |succ f ih=>
  intro n r a _ b
  rw[minRun'_succ]
  by_cases c:n<64
  .rw[Y22 c];exact jZ _
  .rw[Y20 c]
   have:=ih (n / 2) (max r (n % 2)) Om Om Om
   lia
theorem Qex{st:SortSt}{Q:Unit->SortSt->Prop}(p:IntKeys a₀)(g:SBase a₀ st)(l:2<=a₀.size)(j:∀i,1<=i->i<a₀.size->PyProof.Rows.K (arrOf st) i<PyProof.Rows.K (arrOf st) (i-1))
  (h:∀st',(arrOf st').Perm a₀->failedOf st'=none->SortedTo (arrOf st') a₀.size->Q () st'):wpS (model prog w) A E s sortRuns' Q st:=by
 rw[sortRuns'_eq]
 refine wpS_bind (wpS_get ?_)
 dsimp only
 have k:=Qoy a₀.size a₀.size 0 Dc Om (jZ _)
 simp only[g.size]
 refine wpS_bind (wpS_mono (wpS_forRange (I:=fun x c st'=>(x=0/\c=(none,0)/\st'=st)\/(1<=x/\c=(none,a₀.size)/\SDone a₀ st')) (Q:=fun c st'=>c=(none,a₀.size)/\SDone a₀ st') ?step ?fin (.inl ⟨rfl,rfl,rfl⟩)) ?post)
 case fin=>
  rintro c st' (⟨q,_,_⟩ | ⟨_,n,b⟩)
  .omega
  .exact⟨n,b⟩
 case step=>
  rintro x c st' _ q (⟨rfl,rfl,rfl⟩ | ⟨m,rfl,b⟩)
  .dsimp only
   rw[Y20 Om]
   simp only[Nat.sub_zero,Nat.zero_add]
   refine wpS_bind (Qmg p g l j fun e d f=>?_)
   dsimp only
   rw[Y20 Om]
   refine wpS_bind (wpS_get ?_)
   rw[show(pendingOf e).back?=none by rw[d.pend];rfl]
   exact wpS_bind (wpS_modify (wpS_pure (.inr ⟨Om,rfl,d.done f⟩)))
  .dsimp only
   rw[Y22 (jZ _)]
   exact wpS_pure ⟨rfl,b⟩
 case post=>
  rintro c st' ⟨rfl,b⟩
  dsimp only
  refine wpS_bind (wpS_mono (wpS_forRange (I:=fun _ c a=>a=st'/\c=(none,())) (Q:=fun c a=>a=st'/\c=(none,())) ?_ (fun _ _ o=>o) ⟨rfl,rfl⟩) ?_)
  .rintro x c a _ _ ⟨rfl,rfl⟩
   refine wpS_bind (wpS_get ?_)
   rw[Y22 (by rw[b.2.2.1];exact jZ 1)]
   exact wpS_pure ⟨rfl,rfl⟩
  .rintro c a ⟨rfl,rfl⟩
   exact wpS_pure (h _ b.1 b.2.1 b.2.2.2)
theorem Qtb{vs:List Value}(h:IntsAre vs ns)(s:ns.Pairwise (fun a b=>b<a))(t:1<=i)(r:i<(pairsOf vs).size):PyProof.Rows.K (pairsOf vs) i<PyProof.Rows.K (pairsOf vs) (i-1):=by
 have c:∀j,j<(pairsOf vs).size->∃x,ns[j]?=some x/\PyProof.Rows.K (pairsOf vs) j=x:=fun j f=>by
  have e:=K_eq f
  have d:=f
  rw[pairsOf_size]at d
  exists PyProof.Rows.K (pairsOf vs) j,?_,rfl
  rw[e,<-h.nums,jY,gE d]
  show some (numOf vs[j])=some (numOf (pairsOf vs)[j].1)
  congr 2
  unfold pairsOf
  simp
 obtain⟨x,o,p⟩:=c i r
 obtain⟨y,g,n⟩:=c (i-1) Om
 rw[p,n]
 obtain⟨m,q⟩:=jW.mp o
 obtain⟨l,k⟩:=jW.mp g
 have:=kZb.mp s (i-1) i l m Om
 rw[q,k]at this
 exact this
theorem Qmh{vs:List Value}{P:PySem.Fin->Shared->Prop}(m:s.heap.get? a=some (seqObj "list" vs.toArray n))
  (l:IntsAre vs ns) (v:vs.length<64\/ns.Pairwise (fun a b=>b<a)) (p:vs.length<1000000)
  (h:∀(out:Array Value) (ns':List Int),IntsAre out.toList ns'->ns'.Perm ns->ns'.Pairwise (·<=·)->P (.done (.ret .none)) { s with heap:=sortedHeap s.heap a vs out }) :
  qe prog w A (Builtin.«list.sort» ⟨[.ref a],[]⟩) P E s:=by
 by_cases g:vs.length<64
 .exact list_sort_tree m l g h
 have H:=v.resolve_left g
 rw[list_sort_plain]
 have r:a<(qa s):=yK m
 refine jX (listItems_at m rfl ?_)
 refine jX (listUpdate_at m rfl ?_)
 obtain⟨o,j⟩:∃o,(s.heap.update a (Obj.mapSeq fun _=>#[])).get? a=some (seqObj "list" #[] o):=⟨_,get?_update_seq m (fun _=>#[])⟩
 refine jX (seqEpoch_at j rfl ?_)
 refine jX (wpAny_newTuple ?_)
 refine jX (wpAny_newList ?_)
 refine Y30 ?_
 have k:((qD 0).push (seqObj "list" #[] 0)).get? a=some (seqObj "list" #[] o):=by
  rw[Heap.get?_push_ne _ _ _ (by rw[size_push',Heap.size_update];exact zV (kQb r)),Heap.get?_push_ne _ _ _ (by rw[Heap.size_update];exact zV r)]
  exact j
 show qe prog w A _ P E { s with heap:=(qD 0).push (seqObj "list" #[] 0) }
 dsimp only
 have x:vs.toArray.size=vs.length:=by simp
 rw[Y20 Om,Y20 Om]
 obtain⟨v₁,c,d,rfl⟩:∃v₁ c d,vs=v₁::c::d:=by
  match vs,g with
  |[],h2=>simp at h2
  |[_],h2=>simp at h2
  |v₁::c::d,_=>exists v₁,c,d,rfl
 rw[keyKind_ints l]
 refine jX (jK ?_)
 refine jX (Y29 (Qex (a₀:=pairsOf (v₁::c::d)) (st:=SortSt.mk' oneType' ((v₁::c::d).toArray.zip (v₁::c::d).toArray) #[] 7 none)
  (Q:=fun _ f=>(arrOf f).Perm (pairsOf (v₁::c::d))/\failedOf f=none/\SortedTo (arrOf f) (pairsOf (v₁::c::d)).size) l.intKeys ⟨Array.Perm.refl _,rfl,rfl,rfl⟩ (by rw[pairsOf_size];lia) (fun i C y=>Qtb l H C y) fun f z t u=>⟨z,t,u⟩) ?_ fun _ _ e=>e)
 rintro⟨⟨⟩,f⟩ J ⟨rfl,q,D,B⟩
 dsimp only
 refine jX (seqEpoch_at k rfl ?_)
 refine jX (listUpdate_at k rfl ?_ (hsz2:=by refine jZa (Nat.le_of_eq ((Array.size_map ..).trans (q.size_eq.trans (pairsOf_size _)))) ?_;rw[sizeLine_eq];lia))
 rw[D]
 simp only[bne_self_eq_false,yZ,if_false]
 obtain⟨ns',G,I,F⟩:=sorted_out l q B
 exact jK (h _ ns' G I F)
end
theorem Qdr:∀{us:List Value} {ns:List Int},us.length=ns.length->(∀(j:Nat) (u:Value),us[j]?=some u->∃x t,ns[j]?=some x/\u=.int x t)->IntsAre us ns
 |[],[],_,_=>.nil
 |[],_::_,e,_=>nomatch e
 |_::_,[],e,_=>nomatch e
 |u::us,x::ns,e,h=>by
  obtain⟨y,t,b,rfl⟩:=h 0 u rfl
  obtain rfl:x=y:=Y5 b
  exact .cons x t (Qdr (Nat.succ.inj e) fun j v a=>h (j+1) v a)
open PySem.W in
theorem Qey(U:X.calm=true):Jb X (.builtin "sorted") (fun xs H Q=>∃(d:Addr) (kvs:List (Key×V)) (ss:List Int),xs=[.ref d]/\H d=some (.dK kvs)/\kvs.map (·.1)=ss.map Sum.inl/\kvs.length<100000/\(ss.length<64\/ss.Pairwise (fun a b=>b<a)) /\
  ∀(D:Addr) (qs:List Int),H D=none->qs.Perm ss->qs.Pairwise (·<=·)->Q (.ref D) (upd H D (.lst (qs.map V.int)))):=by
 intro n s W H xs us Q I rv h
 obtain⟨d,kvs,ss,rfl,T,L,aa,R,q⟩:=h
 obtain⟨u,rfl,ru⟩:=rv.one
 cases ru
 obtain⟨z,lo,vs,r,dd⟩:=Qog I.hok T
 obtain⟨o,es,ep,h1,h2,O,Z⟩:=id dd
 have da:s.heap.DictAt (Xw X.prog X.w) d vs ep:=⟨o,es,h1,h2,O,Z⟩
 have lr:=r.length
 have v:(d == sysModules)=false:=lo
 exists"z"
 refine Calls.call_function_entry kind_sorted plain_sorted entry_sorted (args_sorted1 _) ?_
 unfold Builtin.«sorted»
 refine jX (m:=checkCount "sorted" 1 1 _) (jK ?_)
 refine jX (kdu_collect (A:=X.A.in1) (kdl_dict (knd:=Xw X.prog X.w) (kvs:=vs) (ep:=ep) v) (I.ok.hd U) da Om fun i E c F f=>?_)
 have Y:c.toList.length=vs.length:=by rw[xX];exact f.1
 refine jX (wpAny_newList ?_ (by rw[Y];lia))
 have lk:kvs.length=ss.length:=by
  have:=congrArg List.length L
  rwa [jQ,jQ]at this
 have hS:IntsAre c.toList ss:=by
  refine Qdr Om fun j u eu=>?_
  obtain⟨k,x,ek,C⟩:=f.2 j u (by rw[<-jJb];exact eu)
  have p:(vs.map (·.1))[j]?=some k:=by rw[jY,ek];rfl
  rw[<-Qxb r,L,jY]at p
  cases G:ss[j]? with
  |none=>rw[G]at p;cases p
  |some y=>
   rw[G]at p
   cases p
   obtain⟨t,rfl⟩:=(show ∃t,u=Value.int y t from is_kV C)
   exists y,t,rfl,rfl
 have l:(i.push (seqObj "list" c.toList.toArray 0)).get? i.objs.size=some (seqObj "list" c.toList.toArray 0):=yJ _ rfl
 show wpAny _ _ _ _ _ { s with heap:=i.push (seqObj "list" c.toList.toArray 0),toks:=E }
 refine jX (Y30 (Y25 slot_list_sort ⟨_,l,rfl⟩ entry_list_sort (Qmh l hS (R.imp_left fun z=>Om) Om fun out g b1 M b3=>⟨_,rfl,?_⟩) (args_list_sort _)))
 refine jK ⟨_,rfl,?_⟩
 obtain⟨e,S⟩:=sortedHeap_at (h:=i.push (seqObj "list" c.toList.toArray 0)) (vs:=c.toList) (out:=out) l
 have l5:g.length=ss.length:=M.length_eq
 have N:Inv X n W H { s with heap:=i,toks:=E }:=I.kept F
 exists .ref i.objs.size,_,N.laid (t':=E) (o:=.lst (g.map V.int)) (fun b P z5=>?_) (jZ _) ⟨by rw[jQ];lia,out.toList,e,Qar b1,by rw[Array.toArray_toList];exact S⟩,rfl,q _ g (N.hok.fresh (jZ _)) M b3
 have J:i.get? b=some P:=z5
 have B:=yK J
 rw[sortedHeap_old (zV B) (by rw[size_push'];exact kQb B),Heap.get?_push_ne _ _ _ (zV B)]
 exact J
end L2
namespace Nb
open PySem L2
def top(i:Nat):Stmt:=PySem.Challenge.pw_nonebetter_k32_whole_shorter_papers.main.body.getD i (.Pass ⟨0,0,0,0⟩)
abbrev Qbc:Stmt:=top 1
abbrev Qkm:Stmt:=top 2
abbrev Qez:Stmt:=top 3
abbrev Qbd:Stmt:=top 20
abbrev Qfa:Stmt:=top 21
abbrev Qfb:Stmt:=top 22
inductive Dt
 |non
 |bl (b:Bool)
 |int (i:Int)
 |str (s:Str)
 |tup (xs:List Dt)
 |lst (xs:List Dt)
inductive HasT (K:Fg) (H:Hp):V->Dt->Prop
 |non:HasT K H .non .non
 |bl (b:_):HasT K H (.bl b) (.bl b)
 |int (i:_):HasT K H (.int i) (.int i)
 |str (s:_):HasT K H (.str s) (.str s)
 |tup {a vs xs:_}:SqT K H a vs->vs.length=xs.length->(∀(i:Nat) v x,vs[i]?=some v->xs[i]?=some x->HasT K H v x)->HasT K H (.ref a) (.tup xs)
 |lst {a vs xs:_}:SqL K H a vs->vs.length=xs.length->(∀(i:Nat) v x,vs[i]?=some v->xs[i]?=some x->HasT K H v x)->HasT K H (.ref a) (.lst xs)
theorem HasT.same(e:Same H H'){x:V}{d:Dt}(h:HasT K H x d):HasT K H' x d:=by
 induction h with
 |non=>exact .non
 |bl b=>exact .bl b
 |int i=>exact .int i
 |str s=>exact .str s
 |tup h1 h2 _ ih=>exact .tup (e.tup h1) h2 ih
 |lst h1 h2 _ ih=>exact .lst (e.seq h1) h2 ih
theorem HasT.tup_inv{xs:List Dt}(h:HasT K H v (.tup xs)):∃a vs,v=.ref a/\SqT K H a vs/\vs.length=xs.length/\∀(i:Nat) v x,vs[i]?=some v->xs[i]?=some x->HasT K H v x:=by
 cases h with | tup h1 h2 h3=>exists _,4,h1,h2,h3
theorem HasT.lst_inv{xs:List Dt}(h:HasT K H v (.lst xs)):∃a vs,v=.ref a/\SqL K H a vs/\vs.length=xs.length/\∀(i:Nat) v x,vs[i]?=some v->xs[i]?=some x->HasT K H v x:=by
 cases h with | lst h1 h2 h3=>exists _,4,h1,h2,h3
theorem HasT.pair_inv{d e:Dt}(h:HasT K H v (.tup [d,e])):∃a x y,v=.ref a/\SqT K H a [x,y]/\HasT K H x d/\HasT K H y e:=by
 obtain⟨a,f,rfl,g,c,b⟩:=h.tup_inv
 obtain⟨x,y,rfl⟩:=len2 (l:=f) c
 exists a,x,y,rfl,g,b 0 x d rfl rfl,b 1 y e rfl rfl
theorem HasT.isi{d:Dt}(h:HasT K H v d)(T:String):isiW K H v T (match d with | .non=>false | .int _=>decide (T="int") | .bl _=>decide (T="int"\/T="bool") | .str _=>decide (T="str") | .tup _=>decide (T="tuple") | .lst _=>decide (T="list")):=by
 cases h with
 |non=>rfl
 |bl b=>rfl
 |int i=>rfl
 |str s=>rfl
 |tup h1=>exact .inl ⟨⟨_,h1⟩,rfl⟩
 |lst h1=>exact .inr ⟨⟨_,h1⟩,rfl⟩
def wholeT:Dt->Bool
 |.int _=>true
 |_=>false
def numT(n:Nat):Dt->Option Nat
 |.int i=>if 0<=i/\i<(n:Int)then some i.toNat else none
 |_=>none
def Qiw:Dt->Bool
 |.tup [_,_]=>true
 |_=>false
def Jz(n:Nat):Dt->Option (Nat×Int)
 |.tup [d,.int m]=>if 0<=m then(numT n d).map fun k=>(k,m)else none
 |_=>none
def Km(n:Nat):Dt->Option (Int×Int)
 |.tup [d,e]=>match numT n d,numT 2 e with
  |some k,some w=>some (((k:Nat):Int),((w:Nat):Int))
  |_,_=>none
 |_=>none
def allT{α:Type}(f:Dt->Option α):List Dt->Option (List α)
 |[]=>some []
 |d::r=>match f d,allT f r with
  |some x,some t=>some (x::t)
  |_,_=>none
theorem Ka{α:Type}(f:Dt->Option α)(a:List Dt):(allT f a).isSome=a.all fun d=>(f d).isSome:=by
 induction a with
 |nil=>rfl
 |cons d r ih=>
  show(match f d,allT f r with | some x,some t=>some (x::t) | _,_=>none).isSome=_
  rw[List.all_cons,<-ih]
  cases f d<;>cases allT f r<;>rfl
theorem Qoz{α:Type}{f:Dt->Option α}{d:Dt}{r:List Dt}{xs:List α}(h:allT f (d::r)=some xs):∃x t,f d=some x/\allT f r=some t/\xs=x::t:=by
 have a:(match f d,allT f r with | some x,some t=>some (x::t) | _,_=>none)=some xs:=h
 cases b:f d with
 |none=>rw[b]at a;cases a
 |some x=>
  cases c:allT f r with
  |none=>rw[b,c]at a;cases a
  |some t=>
   rw[b,c]at a
   cases a
   exists x,t,rfl,rfl,rfl
theorem Jn{α:Type}{f:Dt->Option α}:∀{ds:List Dt} {xs:List α},allT f ds=some xs->xs.length=ds.length/\∀(i:Nat) d,ds[i]?=some d->∃x,xs[i]?=some x/\f d=some x:=by
 intro ds
 induction ds with
 |nil=>intro xs h;cases h;exists rfl,fun i d e=>by simp at e
 |cons d r ih=>
  intro xs h
  have a:(match f d,allT f r with | some x,some t=>some (x::t) | _,_=>none)=some xs:=h
  cases b:f d with
  |none=>rw[b]at a;cases a
  |some x=>
   cases c:allT f r with
   |none=>rw[b,c]at a;cases a
   |some t=>
    rw[b,c]at a
    cases a
    obtain⟨l,g⟩:=ih c
    exists by rw[zZ,zZ,l],fun i k e=>?_
    cases i with
    |zero=>simp at e;subst e;exists x,rfl,b
    |succ i=>obtain⟨y,j,m⟩:=g i k (by simpa using e);exists y,by simpa using j,m
def Qcj(n:Nat)(xs:List Dt):Option (List (Int×Int)):=(allT (Km n) xs).bind fun hs=>if (hs.map (·.1)).Nodup then some hs else none
def Zz(n:Nat):Dt->Option (List (Int×Int))
 |.lst xs=>Qcj n xs
 |_=>none
def Qix(n:Nat)(xs:List Dt):Option (List Nat):=(allT (numT n) xs).bind fun t=>if t.Nodup/\t.length=n then some t else none
def Qad(n:Nat):Dt->Option (List Nat)
 |.lst xs=>Qix n xs
 |_=>none
def lenT:Dt->Nat
 |.lst xs=>xs.length
 |_=>0
inductive Kr(K:Fg)(vs:List V)(H:Hp)(Q:VK)(E:XK):Prop|mk(v:V)(d:Dt)(_:vs=[v])(_:HasT K H v d)(_:Q (.bl (wholeT d)) H):Kr K vs H Q E
inductive Ks(K:Fg)(vs:List V)(H:Hp)(Q:VK)(E:XK):Prop|mk(v:V)(d:Dt)(n:Nat)(_:vs=[v,.int (n:Int)])(_:HasT K H v d)(_:Q (.bl (numT n d).isSome) H):Ks K vs H Q E
inductive Qfc(K:Fg)(vs:List V)(H:Hp)(Q:VK)(E:XK):Prop|mk(v:V)(d:Dt)(_:vs=[v])(_:HasT K H v d)(_:Q (.bl (Qiw d)) H):Qfc K vs H Q E
inductive Kt(K:Fg)(vs:List V)(H:Hp)(Q:VK)(E:XK):Prop|mk(v:V)(d:Dt)(l:Addr)(ws:List V)(_:vs=[v,.ref l])(_:HasT K H v d)(_:SqL K H l ws)(_:(∀(i:Nat) w,ws[i]?=some w->w≠.non))(_:Q (.bl (numT ws.length d).isSome) H):Kt K vs H Q E
inductive Qkn(K:Fg)(vs:List V)(H:Hp)(Q:VK)(E:XK):Prop|mk(v:V)(d:Dt)(l:Addr)(ws:List V)(_:vs=[v,.ref l])(_:HasT K H v d)(_:SqL K H l ws)(_:(∀(i:Nat) w,ws[i]?=some w->w≠.non))(_:Q (.bl (Jz ws.length d).isSome) H):Qkn K vs H Q E
inductive Qko(K:Fg)(vs:List V)(H:Hp)(Q:VK)(E:XK):Prop|mk(v:V)(d:Dt)(n:Nat)(_:vs=[v,.int (n:Int)])(_:HasT K H v d)(_:Q (.bl (Km n d).isSome) H):Qko K vs H Q E
inductive Qds(K:Fg)(vs:List V)(H:Hp)(Q:VK)(E:XK):Prop|mk(v:V)(d:Dt)(n:Nat)(_:vs=[v,.int (n:Int)])(_:HasT K H v d)(_:lenT d<1000)(_:∀H',Same H H'->Q (.bl (Zz n d).isSome) H'):Qds K vs H Q E
inductive Qkp(K:Fg)(vs:List V)(H:Hp)(Q:VK)(E:XK):Prop|mk(v:V)(d:Dt)(n:Nat)(_:vs=[v,.int (n:Int)])(_:HasT K H v d)(_:lenT d<64)(_:n<1000)(_:∀H',Same H H'->Q (.bl (Qad n d).isSome) H'):Qkp K vs H Q E
theorem Qmi{d:Dt}{p:Int×Int}(h:Km n d=some p):∃e f,d=.tup [e,f]/\e=.int p.1/\f=.int p.2/\0<=p.1/\p.1<(n:Int)/\(p.2=0\/p.2=1):=by
 unfold Km at h
 split at h
 .rename_i d e
  cases a:numT n d with
  |none=>rw[a]at h;cases h
  |some k=>
   cases b:numT 2 e with
   |none=>rw[a,b]at h;cases h
   |some w=>
    rw[a,b]at h
    cases h
    unfold numT at a b
    split at a
    .rename_i i
     split at a
     .rename_i g
      cases a
      split at b
      .rename_i j
       split at b
       .rename_i c
        cases b
        exists _,4,?_,?_,?_,?_,?_
        .show Dt.int i=Dt.int ((i.toNat:Nat):Int);congr 1;lia
        .show Dt.int j=Dt.int ((j.toNat:Nat):Int);congr 1;lia
        .show 0<=((i.toNat:Nat):Int);lia
        .show((i.toNat:Nat):Int)<n;lia
        .show((j.toNat:Nat):Int)=0\/((j.toNat:Nat):Int)=1;have:j<((2:Nat):Int):=c.2;lia
       .cases b
      .cases b
     .cases a
    .cases a
 .cases h
theorem Xt{d:Dt}{k:Nat}(h:numT n d=some k):d=.int ((k:Nat):Int)/\k<n:=by
 unfold numT at h
 split at h
 .rename_i i
  split at h
  .rename_i a
   cases h
   exists by congr 1;lia,Om
  .cases h
 .cases h
theorem Qae{d:Dt}{p:Nat×Int}(h:Jz n d=some p):d=.tup [.int ((p.1:Nat):Int),.int p.2]/\p.1<n/\0<=p.2:=by
 unfold Jz at h
 split at h
 .rename_i d m
  split at h
  .rename_i a
   obtain⟨k,e,rfl⟩:=zQ.mp h
   obtain⟨c,b⟩:=Xt e
   exists by rw[c],b,a
  .cases h
 .cases h
theorem Sc{a b:List Str}{c:Scope}(h:FnScope a b c:=by exact ⟨rfl,rfl,rfl,Dk,rfl,Dk,Dk⟩):FnScope a b c:=h
theorem Qpa:FnScope ["thing"] ["thing"] (Qf Qbc):=Sc
theorem Qpb(F:Fn K mg "is_whole" Qbc)(M:Mg mg):qC 1 "is_whole" ["thing"] (Kr K):=by
 refine Xd F Qpa (fun _ _ _ _ _ _=>bind1 (fun _=>rfl)) (fun c H Q E h=>?_) (fun f e A a s H c Q E g h=>?_)
 .obtain⟨v,d,rfl,_⟩:=h
  rfl
 obtain⟨v,d,rfl,hv,q⟩:=h
 exists _,(Qh (Qp (Jq (Qi Xm rfl M.isinstance Qw (Qa (pv 0) (Qa (Jl M.int_ Qdo) Qc))) (Qao (Qvf (Qi Xm rfl M.isinstance Qw (Qa (pv 0) (Qa (Jl M.bool_ Qem) Qc)))))))),?_
 cases d with
 |int i=>exists 4,_,"int",4,.int,hv.isi _,true,rfl,iteT ⟨_,rfl,_,"bool",_,rfl,.bool,hv.isi _,false,rfl,q⟩
 |bl b=>exists 4,_,"int",4,.int,hv.isi _,true,rfl,iteT ⟨_,rfl,_,"bool",_,rfl,.bool,hv.isi _,true,rfl,q⟩
 |non=>exists 4,_,"int",4,.int,hv.isi _,false,rfl,iteF q
 |str s=>exists 4,_,"int",4,.int,hv.isi _,false,rfl,iteF q
 |tup xs=>exists 4,_,"int",4,.int,hv.isi _,false,rfl,iteF q
 |lst xs=>exists 4,_,"int",4,.int,hv.isi _,false,rfl,iteF q
theorem Qxc:FnScope ["thing","count"] ["thing","count"] (Qf Qkm):=Sc
theorem Qxd(F:Fn K mg "is_number_of" Qkm)(M:Mg mg)(a:qC 1 "is_whole" ["thing"] (Kr K)):qC 2 "is_number_of" ["thing","count"] (Ks K):=by
 refine Xd F Qxc (fun _ _ _ _ _ _=>Zn (fun _ _=>rfl)) (fun m H Q E h=>?_) (fun f k A j s H m Q E l h=>?_)
 .obtain⟨v,d,n,rfl,_⟩:=h
  rfl
 obtain⟨v,d,n,rfl,hv,q⟩:=h
 exists _,(Qh (Qp (Jq (Xc a (l.mono Dc) (Qa (pv 0) Qc)) (Qao (Qsf op_le Qeg Qd (pv 0) (pv 1)))))),?_
 cases d with
 |int i=>
  cases hv
  exists 4,_,4,.int i,true,rfl,iteT ⟨_,rfl,_,_,rfl,rfl,_,rfl,ite2 (fun c=>⟨_,rfl,_,_,rfl,rfl,?_⟩) (fun c=>?_)⟩
  .have g:0<=i:=kZ c
   by_cases h:i<(n:Int)
   .have e:numT n (.int i)=some i.toNat:=Y22 ⟨g,h⟩
    rw[e]at q
    show Q (.bl (decide (i<(n:Int)))) H
    rw[zX h]
    exact q
   .have e:numT n (.int i)=none:=Y20 fun z=>h z.2
    rw[e]at q
    show Q (.bl (decide (i<(n:Int)))) H
    rw[zJ h]
    exact q
  .have g:¬0<=i:=fun z=>c (zX z)
   have e:numT n (.int i)=none:=Y20 fun z=>g z.1
   rw[e]at q
   exact q
 |non=>exists 4,_,4,hv,false,rfl,iteF q
 |bl b=>exists 4,_,4,hv,false,rfl,iteF q
 |str s=>exists 4,_,4,hv,false,rfl,iteF q
 |tup xs=>exists 4,_,4,hv,false,rfl,iteF q
 |lst xs=>exists 4,_,4,hv,false,rfl,iteF q
theorem Qtc:FnScope ["thing"] ["thing"] (Qf Qez):=Sc
theorem Qtd(F:Fn K mg "is_pair" Qez)(M:Mg mg):qC 1 "is_pair" ["thing"] (Qfc K):=by
 refine Xd F Qtc (fun _ _ _ _ _ _=>bind1 (fun _=>rfl)) (fun e H Q E h=>?_) (fun f j A c s H e Q E m h=>?_)
 .obtain⟨v,d,rfl,_⟩:=h
  rfl
 obtain⟨v,d,rfl,hv,q⟩:=h
 exists _,(Qh (Qp (Jq (Qi Xm rfl M.isinstance Qw (Qa (pv 0) (Qa (Jl M.tuple_ Xo) Qc))) (Qao (Ze Xz (qL (pv 0)) Qd (Qt _)))))),?_
 cases d with
 |tup xs=>
  obtain⟨a,e,rfl,k,g,l⟩:=hv.tup_inv
  exists 4,_,"tuple",4,.tuple,hv.isi _,true,rfl,iteT ⟨_,rfl,a,_,rfl,.inr k,rfl,?_⟩
  rw[g]
  match xs,q with
  |[],q=>exact q
  |[_],q=>exact q
  |[_,_],q=>exact q
  |_::_::_::r,q=>
   rw[zJ (fun z=>by have:=V.int.inj z;simp at this;lia)]
   exact q
 |int i=>exists 4,_,"tuple",4,.tuple,hv.isi _,false,rfl,iteF q
 |non=>exists 4,_,"tuple",4,.tuple,hv.isi _,false,rfl,iteF q
 |bl b=>exists 4,_,"tuple",4,.tuple,hv.isi _,false,rfl,iteF q
 |str s=>exists 4,_,"tuple",4,.tuple,hv.isi _,false,rfl,iteF q
 |lst xs=>exists 4,_,"tuple",4,.tuple,hv.isi _,false,rfl,iteF q
theorem Qpc:FnScope ["thing","told"] ["thing","told"] (Qf Qbd):=Sc
theorem Qpd(F:Fn K mg "is_ahead" Qbd)(M:Mg mg)(a:qC 2 "is_number_of" ["thing","count"] (Ks K)):qC 3 "is_ahead" ["thing","told"] (Kt K):=by
 refine Xd F Qpc (fun _ _ _ _ _ _=>Zn (fun _ _=>rfl)) (fun p H Q E h=>?_) (fun f m A g s H p Q E n h=>?_)
 .obtain⟨v,d,l,c,rfl,_⟩:=h
  rfl
 obtain⟨v,d,l,c,rfl,hv,j,b,q⟩:=h
 exists _,(Qh (Qp (Jq (Xc a (n.mono Dc) (Qa (pv 0) (Qa (qL (pv 1)) Qc))) (Qao (Ze Qnl (Qo ix_list (pv 1) (pv 0)) Xk (Qt _)))))),?_
 exists 4,4,l,4,.inl j,v,d,c.length,rfl,hv,?_
 cases e:numT c.length d with
 |none=>rw[e]at q;exists false,rfl,iteF q
 |some k=>
  rw[e]at q
  obtain⟨rfl,i⟩:=Xt e
  cases hv
  have o:=b k _ (gE i)
  exists true,rfl,iteT ⟨_,rfl,_,rfl,l,_,_,_,rfl,rfl,j,Yu (gE i),rfl,?_⟩
  rw[zJ o]
  exact q
theorem Qte:FnScope ["thing","told"] ["thing","told"] (Qf Qfa):=Sc
theorem Qtf(F:Fn K mg "is_part" Qfa)(M:Mg mg)(i:qC 1 "is_pair" ["thing"] (Qfc K))(g:qC 3 "is_ahead" ["thing","told"] (Kt K))(c:qC 1 "is_whole" ["thing"] (Kr K)):qC 4 "is_part" ["thing","told"] (Qkn K):=by
 refine Xd F Qte (fun _ _ _ _ _ _=>Zn (fun _ _=>rfl)) (fun N H Q E h=>?_) (fun f J A z s H N Q E u h=>?_)
 .obtain⟨v,d,l,n,rfl,_⟩:=h
  rfl
 obtain⟨v,d,l,n,rfl,hv,I,t,q⟩:=h
 exists _,(Qh (Qp (Jq (Xc i (u.mono Dc) (Qa (pv 0) Qc)) (Jq (Xc g (u.mono Dc) (Qa (Qo Qm (pv 0) Qd) (Qa (pv 1) Qc))) (Jq (Xc c (u.mono Dc) (Qa (Qo Qm (pv 0) Qd) Qc)) (Qao (Ze Qnk (Qo Qm (pv 0) Qd) Qd (Qt _)))))))),?_
 exists 4,v,d,rfl,hv,?_
 cases p:Qiw d with
 |false=>
  have e:Jz n.length d=none:=by
   unfold Jz
   split
   .simp[Qiw]at p
   .rfl
  rw[e]at q
  exists false,rfl,iteF q
 |true=>
  obtain⟨j,o,rfl⟩:∃j o,d=.tup [j,o]:=by
   unfold Qiw at p
   split at p
   .exact⟨_,_,rfl⟩
   .cases p
  obtain⟨a,x,y,rfl,B,L,D⟩:=hv.pair_inv
  exists true,rfl,iteT ⟨_,rfl,a,_,_,_,rfl,rfl,B,at0,_,rfl,x,j,l,n,rfl,L,I,t,?_⟩
  cases G:numT n.length j with
  |none=>
   have e:Jz n.length (.tup [j,o])=none:=by
    unfold Jz
    split
    .rename_i C
     cases C
     rw[G]
     split<;>rfl
    .rfl
   rw[e]at q
   exists false,rfl,iteF q
  |some k=>
   exists true,rfl,iteT ⟨_,rfl,a,_,_,_,rfl,rfl,B,at1,y,o,rfl,D,?_⟩
   cases o with
   |int m=>
    cases D
    exists true,rfl,iteT ⟨_,rfl,a,_,_,_,rfl,rfl,B,at1,_,_,rfl,rfl,?_⟩
    have e:Jz n.length (.tup [j,.int m])=if 0<=m then some (k,m)else none:=by
     show(if 0<=m then(numT n.length j).map fun k=>(k,m)else none)=_
     rw[G];rfl
    rw[e]at q
    by_cases r:0<=m
    .rw[Y22 r]at q
     show Q (.bl (decide (0<=m))) H
     rw[zX r]
     exact q
    .rw[Y20 r]at q
     show Q (.bl (decide (0<=m))) H
     rw[zJ r]
     exact q
   |non=>exists false,rfl,iteF q
   |bl b=>exists false,rfl,iteF q
   |str s=>exists false,rfl,iteF q
   |tup xs=>exists false,rfl,iteF q
   |lst xs=>exists false,rfl,iteF q
theorem Qtg:FnScope ["thing","count"] ["thing","count"] (Qf Qfb):=Sc
theorem Qth(F:Fn K mg "is_hold" Qfb)(M:Mg mg)(c:qC 1 "is_pair" ["thing"] (Qfc K))(b:qC 2 "is_number_of" ["thing","count"] (Ks K)):qC 3 "is_hold" ["thing","count"] (Qko K):=by
 refine Xd F Qtg (fun _ _ _ _ _ _=>Zn (fun _ _=>rfl)) (fun B H Q E h=>?_) (fun f z A m s H B Q E l h=>?_)
 .obtain⟨v,d,n,rfl,_⟩:=h
  rfl
 obtain⟨v,d,n,rfl,hv,q⟩:=h
 exists _,(Qh (Qp (Jq (Xc c (l.mono Dc) (Qa (pv 0) Qc)) (Jq (Xc b (l.mono Dc) (Qa (Qo Qm (pv 0) Qd) (Qa (pv 1) Qc))) (Qao (Xc b (l.mono Dc) (Qa (Qo Qm (pv 0) Qd) (Qa Qd Qc)))))))),?_
 exists 4,v,d,rfl,hv,?_
 cases j:Qiw d with
 |false=>
  have e:Km n d=none:=by
   unfold Km
   split
   .simp[Qiw]at j
   .rfl
  rw[e]at q
  exists false,rfl,iteF q
 |true=>
  obtain⟨g,i,rfl⟩:∃g i,d=.tup [g,i]:=by
   unfold Qiw at j
   split at j
   .exact⟨_,_,rfl⟩
   .cases j
  obtain⟨a,x,y,rfl,r,u,t⟩:=hv.pair_inv
  have e:Km n (.tup [g,i])=match numT n g,numT 2 i with
   |some k,some w=>some (((k:Nat):Int),((w:Nat):Int))
   |_,_=>none:=rfl
  rw[e]at q
  exists true,rfl,iteT ⟨_,rfl,a,_,_,_,rfl,rfl,r,at0,_,rfl,x,g,n,rfl,u,?_⟩
  cases o:numT n g with
  |none=>
   rw[o]at q
   exists false,rfl,iteF q
  |some k=>
   rw[o]at q
   exists true,rfl,iteT ⟨_,rfl,a,_,_,_,rfl,rfl,r,at1,y,i,2,rfl,t,?_⟩
   cases p:numT 2 i with
   |none=>rw[p]at q;exact q
   |some w=>rw[p]at q;exact q
abbrev Qfd:Stmt:=top 7
abbrev Qpe:Stmt:=top 16
def Qmj(o:Option V)(n:Int):Int:=match o with
 |none=>if 0<n then n else 0
 |some (.int z)=>z*n
 |some _=>0
def Vp(d:List (Key×V))(ns:List Int)(i:Nat):Int:=((List.range i).map fun j=>Qmj (valV d (Sum.inl ((j:Nat):Int))) (ns.getD j 0)).sum
theorem Qiy(d:List (Key×V)){n:Int}(e:ns[i]?=some n):Vp d ns (i+1)=Vp d ns i+Qmj (valV d (Sum.inl ((i:Nat):Int))) n:=by
 unfold Vp
 have a:ns.getD i 0=n:=by rw[jJ,e];rfl
 rw[jYd,kK,List.sum_append,xZ,kYe,List.sum_cons,List.sum_nil,a]
 lia
def Qpf(d:List (Key×V)):Prop:=∀k,valV d k=none\/valV d k=some (.int 0)\/valV d k=some (.int 1)
def dOf(hs:List (Int×Int)):List (Key×V):=Yn (hs.map fun p=>(p.1,V.int p.2))
theorem Qiz(a:List (Int×Int))(b:∀p∈a,p.2=0\/p.2=1):∀d:List (Key×V),Qpf d->Qpf ((a.map fun p=>(p.1,V.int p.2)).foldl (fun d p=>putK d (Sum.inl p.1) p.2) d):=by
 induction a with
 |nil=>intro d h;exact h
 |cons p r ih=>
  intro d h
  refine ih (fun q c=>b q (zY _ c)) _ fun k=>?_
  rw[Wa]
  by_cases e:k=Sum.inl p.1
  .rw[Y22 e]
   rcases b p (kY ..)with z | z
   .exact .inr (.inl (congrArg (fun y=>some (V.int y)) z))
   .exact .inr (.inr (congrArg (fun y=>some (V.int y)) z))
  .rw[Y20 e];exact h k
theorem Qpg(a:∀p∈hs,p.2=0\/p.2=1):Qpf (dOf hs):=Qiz hs a [] fun _=>.inl rfl
def HoldsAt(K:Fg)(H:Hp)(l:Addr)(hs:List (Int×Int)):Prop:=∃vs,SqL K H l vs/\PairsAre K H vs (hs.map fun p=>(p.1,V.int p.2))
theorem PairsAre.same(e:Same H H')(h:PairsAre K H vs ps):PairsAre K H' vs ps:=L2.PairsAre.imp (fun _ _ z=>e.tup z) h
theorem PairsAre.upd{D:Addr}(a:H D=some (.lst ys))(h:PairsAre K H vs ps):PairsAre K (upd H D (.lst zs)) vs ps:=L2.PairsAre.imp (fun _ _ z=>Yk a z) h
theorem HoldsAt.same(e:Same H H')(h:HoldsAt K H l hs):HoldsAt K H' l hs:=by obtain⟨b,c,a⟩:=h;exists b,e.seq c,PairsAre.same e a
inductive Qvr(K:Fg)(vs:List V)(H:Hp)(Q:VK)(E:XK):Prop|mk(t l:Addr)(r:List Int×Int)(hs:List (Int×Int))(_:vs=[.ref t,.ref l])(_:RowAt K H t r)(_:HoldsAt K H l hs)(_:hs.length<=1000)(_:(∀p∈hs,p.2=0\/p.2=1))(_:∀H',Same H H'->Q (.int (Vp (dOf hs) r.1 r.1.length)) H'):Qvr K vs H Q E
abbrev Part:=(List Int×Int)×Int
def addPart(a:List Int×Int)(p:Part):List Int×Int:=(List.zipWith (fun x y=>x+p.2*y) a.1 p.1.1,a.2+p.2*p.1.2)
def Yl(n:Nat)(ps:List Part):List Int×Int:=ps.foldl addPart (qg n 0,0)
theorem Qja(n:Nat){ps:List Part}{p:Part}(h:ps[i]?=some p):Yl n (ps.take (i+1))=addPart (Yl n (ps.take i)) p:=by
 rw[Zw h];unfold Yl;rw[jJf];rfl
theorem Qti(ps:List Part):∀(a:List Int×Int),(∀p∈ps,p.1.1.length=a.1.length)->(ps.foldl addPart a).1.length=a.1.length:=by
 induction ps with
 |nil=>intro a _;rfl
 |cons p t ih=>
  intro a h
  have c:=h p kY
  have e:(addPart a p).1.length=a.1.length:=by show(List.zipWith _ _ _).length=_;rw[yZd];lia
  rw[kXd,ih _ (fun q b=>by rw[e];exact h q (zY _ b)),e]
theorem Qaf(n:Nat)(ps:List Part)(h:∀p∈ps,p.1.1.length=n):(Yl n ps).1.length=n:=by
 have:=Qti ps (qg n 0,0) (fun p a=>by rw[h p a];exact(wQ ..).symm)
 unfold Yl
 rw[this]
 exact wQ ..
theorem rep0(n:Nat):(qg n [V.int 0]).flatten=(qg n (0:Int)).map V.int:=by
 induction n with
 |zero=>rfl
 |succ n ih=>rw[jXf,kXf,ih,jXf,xZ];rfl
theorem Qxe{f:Int->Int->Int}{n m:Int}(a:ns[i]?=some n)(b:ms[i]?=some m):(List.zipWith f ns ms)[i]?=some (f n m):=by
 rw[List.getElem?_zipWith,a,b]
def Kb(K:Fg)(H:Hp)(vs:List V)(ps:List Part):Prop:=vs.length=ps.length/\∀(i:Nat) (v:V) (p:Part),vs[i]?=some v->ps[i]?=some p->∃T t,v=.ref T/\SqT K H T [.ref t,.int p.2]/\RowAt K H t p.1
inductive spSum(K:Fg)(vs:List V)(H:Hp)(Q:VK)(E:XK):Prop|mk(l:Addr)(us:List V)(ps:List Part)(n:Nat)(_:vs=[.int (n:Int),.ref l])(_:SqL K H l us)(_:Kb K H us ps)(_:n<=1000)(_:(∀p∈ps,p.1.1.length=n/\-(2 ^ 64)<p.2/\p.2<2 ^ 64))(_:∀t H',Same H H'->RowAt K H' t (Yl n ps)->Q (.ref t) H'):spSum K vs H Q E
def addF(o:Option Int)(x:Int):Int:=match o with
 |none=>if 0<x then x else 0
 |some w=>w*x
def hv(hs:List (Int×Int))(j:Nat):Option Int:=(hs.find? fun p=>p.1 == (j:Int)).map (·.2)
def setF(f:Nat->Option Int)(c:Nat)(w:Int):Nat->Option Int:=fun j=>if j=c then some w else f j
def sumN(n:Nat)(g:Nat->Int):Int:=((List.range n).map g).sum
theorem Qck(n:Nat)(g:Nat->Int):sumN (n+1) g=sumN n g+g n:=by
 unfold sumN
 rw[jYd,kK,List.sum_append,xZ,kYe,List.sum_cons,List.sum_nil]
 lia
theorem Qag{g h:Nat->Int}(e:∀j,j<n->g j=h j):sumN n g=sumN n h:=by
 unfold sumN
 exact congrArg List.sum (kZd fun j a=>e j (wZ.mp a))
theorem Qdt{g h:Nat->Int}(d:c<n)(e:∀j,j≠c->g j=h j):sumN n g=sumN n h+(g c-h c):=by
 induction n with
 |zero=>lia
 |succ n ih=>
  rw[Qck,Qck]
  by_cases a:c<n
  .rw[ih a,e n Om];lia
  .have:c=n:=Om
   subst this
   rw[Qag (g:=g) (h:=h) fun j b=>e j Om]
   lia
theorem sum_filter(p:Nat->Bool)(g:Nat->Int)(n:Nat):(((List.range n).filter p).map g).sum=sumN n fun k=>if p k=true then g k else 0:=by
 induction n with
 |zero=>rfl
 |succ n ih=>
  rw[Qck,jYd,kJb,kK,List.sum_append,ih]
  by_cases h:p n=true
  .rw[Y22 h,jYe h];simp
  .rw[Y20 h,jYf h];simp
def roomF(n:Nat)(f:Nat->Option Int)(r:List Int×Int):Int:=sumN n (fun j=>addF (f j) (r.1.getD j 0))-r.2
theorem Qph{f:Nat->Option Int}{w:Int}(b:c<n)(a:f c=none):roomF n (setF f c w) r=roomF n f r+(w*r.1.getD c 0-addF none (r.1.getD c 0)):=by
 unfold roomF
 rw[Qdt (n:=n) (c:=c) (g:=fun j=>addF (setF f c w j) (r.1.getD j 0)) (h:=fun j=>addF (f j) (r.1.getD j 0)) b fun j d=>by simp only[setF,Y20 d]]
 simp only[setF,if_true,a]
 show _+(w*r.1.getD c 0-addF none (r.1.getD c 0))-r.2=_
 lia
structure Good(n:Nat)(hs:List (Int×Int)):Prop where
 nd:(hs.map (·.1)).Nodup
 ok:∀p∈hs,0<=p.1/\p.1<(n:Int)/\(p.2=0\/p.2=1)
theorem Qjb(p:Int×Int)(t:List (Int×Int))(j:Nat):hv (p::t) j=if p.1=(j:Int)then some p.2 else hv t j:=by
 unfold hv
 rw[jZf]
 by_cases h:p.1=(j:Int)
 .rw[Y22 h,show(p.1 == (j:Int))=true from beq_iff_eq.mpr h];rfl
 .rw[Y20 h,show(p.1 == (j:Int))=false from beq_eq_false_iff_ne.mpr h]
theorem hv_none:hv hs j=none↔(j:Int)∉hs.map (·.1):=by
 induction hs with
 |nil=>simp[hv]
 |cons p t ih=>
  rw[Qjb]
  by_cases h:p.1=(j:Int)
  .rw[Y22 h];simp[h]
  .rw[Y20 h,ih]
   simp only[xZ,zK,not_or]
   exists fun z=>⟨fun e=>h e.symm,z⟩,fun z=>z.2
def Qpi(r:List Int×Int)(hs:List (Int×Int)):Int :=
 (hs.map fun p=>r.1.getD p.1.toNat 0*p.2).sum+(((List.range r.1.length).filter fun(k:Nat)=>!decide ((k:Int)∈hs.map (·.1))).map fun(k:Nat)=>addF none (r.1.getD k 0)).sum-r.2
theorem Qtj:∀{hs:List (Int×Int)},Good r.1.length hs->Qpi r hs=roomF r.1.length (hv hs) r:=by
 intro hs
 induction hs with
 |nil=>
  intro _
  unfold Qpi roomF
  rw[sum_filter]
  show 0+_-r.2=_
  rw[Qag (h:=fun j=>addF (hv [] j) (r.1.getD j 0)) fun j _=>by simp[hv]]
  lia
 |cons p t ih=>
  intro h
  have a:=jYb.mp (show(p.1::t.map (·.1)).Nodup from h.nd)
  have u:Good r.1.length t:=⟨a.2,fun q l=>h.ok q (zY _ l)⟩
  obtain⟨A,y,x⟩:=h.ok p kY
  have d:p.1.toNat<r.1.length:=Om
  have b:((p.1.toNat:Nat):Int)=p.1:=Om
  have o:hv t p.1.toNat=none:=hv_none.mpr (by rw[b];exact a.1)
  have w:hv (p::t)=setF (hv t) p.1.toNat p.2:=by
   funext j
   rw[Qjb]
   unfold setF
   by_cases e:j=p.1.toNat
   .rw[Y22 e,Y22 Om]
   .rw[Y20 e,Y20 Om]
  rw[w,Qph d o,<-ih u]
  unfold Qpi
  rw[sum_filter,sum_filter]
  have m:=Qdt (n:=r.1.length) (c:=p.1.toNat) (g:=fun k=>if (!decide ((k:Int)∈(p::t).map (·.1)))=true then addF none (r.1.getD k 0)else 0) (h:=fun k=>if (!decide ((k:Int)∈t.map (·.1)))=true then addF none (r.1.getD k 0)else 0) d (fun j B=>by
   have v:¬(j:Int)=p.1:=Om
   have i:decide ((j:Int)∈(p::t).map (·.1))=decide ((j:Int)∈t.map (·.1)):=by
    apply decide_eq_decide.mpr
    rw[xZ,zK]
    exists fun z=>z.resolve_left v,.inr
   show(if (!decide ((j:Int)∈(p::t).map (·.1)))=true then _ else _)=_
   rw[i])
  rw[m]
  have f:(!decide (((p.1.toNat:Nat):Int)∈(p::t).map (·.1)))=false:=by rw[b];simp
  have s:(!decide (((p.1.toNat:Nat):Int)∈t.map (·.1)))=true:=by rw[b];simpa using a.1
  simp only[f,s,if_true,yZ,if_false]
  rw[xZ,List.sum_cons,Int.mul_comm (r.1.getD p.1.toNat 0) p.2]
  lia
theorem Qmk{xs:List Dt}:(Zz n (.lst xs)).isSome=true↔∃hs,allT (Km n) xs=some hs/\(hs.map (·.1)).Nodup:=by
 show(Qcj n xs).isSome=true↔_
 unfold Qcj
 cases e:allT (Km n) xs with
 |none=>exists (fun z=>nomatch z),fun⟨_,a,_⟩=>nomatch a
 |some hs=>
  show(if (hs.map (·.1)).Nodup then some hs else none).isSome=true↔_
  by_cases h:(hs.map (·.1)).Nodup
  .rw[Y22 h];exists fun _=>⟨hs,rfl,h⟩,fun _=>rfl
  .rw[Y20 h];exists (fun z=>nomatch z),fun⟨c,a,b⟩=>by cases a;exact Y21 b h
theorem Qjc{xs:List Dt}(h:allT (Km n) xs=none):Zz n (.lst xs)=none:=by
 show Qcj n xs=none
 unfold Qcj;rw[h];rfl
theorem Qml{xs:List Dt}(h:allT (numT n) xs=none):Qad n (.lst xs)=none:=by
 show Qix n xs=none
 unfold Qix;rw[h];rfl
theorem Qmm{xs:List Dt}(h:allT (numT n) xs=some t):(Qad n (.lst xs)).isSome=true↔t.Nodup/\t.length=n:=by
 show(Qix n xs).isSome=true↔_
 unfold Qix
 rw[h]
 show(if t.Nodup/\t.length=n then some t else none).isSome=true↔_
 by_cases a:t.Nodup/\t.length=n
 .rw[Y22 a];exists fun _=>a,fun _=>rfl
 .rw[Y20 a];exists (fun z=>nomatch z),fun z=>Y21 z a
theorem Qcl{α:Type}{o:Option α}{b:Bool}(h:b=true↔o.isSome=true):b=o.isSome:=by
 cases b<;>cases o<;>simp_all
theorem Qfe:∀{l1 l2:List Int},l1.Perm l2->l1.Pairwise (·<=·)->l2.Pairwise (·<=·)->l1=l2:=by
 intro l1
 induction l1 with
 |nil=>intro l2 h _ _;exact h.nil_eq
 |cons a t ih=>
  intro l2 h g i
  cases l2 with
  |nil=>exact Y21 h.length_eq (by simp)
  |cons b u=>
   have c:a=b:=by
    have k:a∈b::u:=h.mem_iff.mp kY
    have j:b∈a::t:=h.mem_iff.mpr kY
    have d:=kXa.mp g
    have f:=kXa.mp i
    rcases zK.mp k with e | e
    .exact e
    .rcases zK.mp j with e' | e'
     .exact e'.symm
     .have:=f.1 a e;have:=d.1 b e';lia
   subst c
   rw[ih (List.Perm.cons_inv h) (kXa.mp g).2 (kXa.mp i).2]
def Wk(n:Nat):List Int:=(List.range n).map fun i=>((i:Nat):Int)
theorem Qff(n:Nat):(Wk n).Pairwise (·<=·):=by
 unfold Wk
 rw[kYa]
 exact List.Pairwise.imp (fun h=>Om) List.pairwise_lt_range
theorem Ki(d:∀k∈t,k<n)(c:t.Nodup)(b:t.length=n):t.Perm (List.range n):=by
 have i:∀(n:Nat) (t:List Nat),(∀k∈t,k<n)->t.Nodup->t.length=n->∀k,k<n->k∈t:=by
  intro n
  induction n with
  |zero=>intro t _ _ _ k s;lia
  |succ n ih=>
   intro t d c b k s
   by_cases p:n∈t
   ·have w:=ih (t.erase n) (fun j a=>by
      have v:=d j (yYc a)
      have r:j≠n:=fun e=>by rw[e]at a;exact(List.Nodup.not_mem_erase c) a
      lia) (c.erase n) (by rw[kJa p];lia)
    by_cases l:k=n
    .rw[l];exact p
    .exact yYc (w k Om)
   .exfalso
    have q:∀j∈t,j<n:=fun j a=>by
     have:=d j a
     have:j≠n:=fun e=>p (e▸a)
     lia
    have:∀(m:Nat) (u:List Nat),(∀j∈u,j<m)->u.Nodup->u.length<=m:=by
     intro m
     induction m with
     |zero=>
      intro u o _
      cases u with
      |nil=>exact jZ _
      |cons x _=>exact Y21 (o x kY) (kXe _)
     |succ m ihm=>
      intro u o f
      have:=ihm (u.erase m) (fun j a=>by
       have v:=o j (yYc a)
       have r:j≠m:=fun e=>by rw[e]at a;exact(List.Nodup.not_mem_erase f) a
       lia) (f.erase m)
      by_cases g:m∈u
      .rw[kJa g]at this
       lia
      .rw[List.erase_of_not_mem g]at this;lia
    have:=this n t q c
    lia
 refine(List.perm_ext_iff_of_nodup c List.nodup_range).mpr fun k=>?_
 rw[wZ]
 exists fun h=>d k h,i n t d c b k
theorem Qcm(d:∀k∈t,k<n){qs:List Int}(a:qs.Perm (t.map fun(k:Nat)=>(k:Int)))(f:qs.Pairwise (·<=·)):qs=Wk n↔t.Nodup/\t.length=n:=by
 constructor
 .intro e
  rw[e]at a
  have b:(t.map fun(k:Nat)=>(k:Int)).Nodup:=a.nodup_iff.mp (by
   unfold Wk
   exact kYa.mpr (List.Pairwise.imp (fun h=>Om) List.nodup_range))
  exists List.Pairwise.imp (fun h e=>h (by rw[e])) (kYa.mp b),?_
  have:=a.length_eq
  unfold Wk at this
  rw[jQ,jQ,xK]at this
  exact this.symm
 .rintro⟨b,c⟩
  exact Qfe (a.trans ((Ki d b c).map _)) f (Qff n)
theorem Qhi{xs:List Dt}(o:vs.length=xs.length)(h:∀(i:Nat) v x,vs[i]?=some v->xs[i]?=some x->HasT K H v x)(e:allT (numT n) xs=some t):vs=(t.map fun(k:Nat)=>(k:Int)).map V.int/\(∀k∈t,k<n):=by
 obtain⟨q,l⟩:=Jn e
 exists ?_,fun k m=>?_
 .apply jZd
  intro i
  by_cases f:i<vs.length
  .obtain⟨x,d⟩:∃x,xs[i]?=some x:=⟨_,gE Om⟩
   obtain⟨k,c,g⟩:=l i x d
   obtain⟨rfl,_⟩:=Xt g
   have:=h i _ _ (gE f) d
   rw[gE f,jY,jY,c]
   cases hv:vs[i]with
   |int j=>rw[hv]at this;cases this;rfl
   |non=>rw[hv]at this;cases this
   |bl b=>rw[hv]at this;cases this
   |str s=>rw[hv]at this;cases this
   |ref a=>rw[hv]at this;cases this
   |byt _=>rw[hv]at this;cases this
   |flt _=>rw[hv]at this;cases this
   |ty _=>rw[hv]at this;cases this
  .rw[jXe.mpr Om,jXe.mpr (by rw[jQ,jQ];lia)]
 .obtain⟨i,f,rfl⟩:=jXb.mp m
  obtain⟨x,d⟩:∃x,xs[i]?=some x:=⟨_,gE Om⟩
  obtain⟨p,c,g⟩:=l i x d
  rw[gE f]at c
  cases c
  exact(Xt g).2
theorem Qdu{xs:List Dt}(a:vs.length=xs.length)(h:∀(i:Nat) v x,vs[i]?=some v->xs[i]?=some x->HasT K H v x)(e:allT (Km n) xs=some hs):PairsAre K H vs (hs.map fun p=>(p.1,V.int p.2))/\∀p∈hs,0<=p.1/\p.1<(n:Int)/\(p.2=0\/p.2=1):=by
 induction xs generalizing vs hs with
 |nil=>
  cases e
  have:vs=[]:=jJe (by simpa using a)
  subst this
  exists .nil,fun p hp=>nomatch hp
 |cons d r ih=>
  obtain⟨x,t,g,l,rfl⟩:=Qoz e
  cases vs with
  |nil=>simp at a
  |cons v u=>
   obtain⟨c,b⟩:=ih (vs:=u) (by simpa using a) (fun i w y f q=>h (i+1) w y (by simpa using f) (by simpa using q)) l
   obtain⟨B,C,rfl,rfl,rfl,m,z,k⟩:=Qmi g
   have hv:=h 0 v _ rfl rfl
   obtain⟨s,E,D,rfl,A,j,o⟩:=hv.pair_inv
   cases j
   cases o
   exists .cons ⟨s,rfl,A⟩ c,fun p hp=>?_
   rcases zK.mp hp with rfl | hp
   .exact⟨m,z,k⟩
   .exact b p hp
def Ya(n c:Nat)(x l:Int):List Int×Int:=((qg n 0).set c x,l)
def Ku(cs:List Int)(b:Int):List Int×Int:=(cs.map fun c=>-c,1-b)
def Vc(r:List Int×Int)(b:Int):List Int×Int:=(r.1.map fun x=>-((-x).fdiv b),-((-r.2).fdiv b))
def Yb(n:Nat)(hs:List (Int×Int)):List Int:=hs.foldl (fun a p=>a.set p.1.toNat (1-2*p.2)) (qg n 0)
def Jh(hs:List (Int×Int)):Int:=hs.foldl (fun z p=>z-p.2) 1
def Jp(n:Nat)(hs:List (Int×Int)):List Int×Int:=(Yb n hs,Jh hs)
def Xf(ns:List Int)(c:Nat):List Int:=ns.take c++[0]++ns.drop (c+1)
def Js(one other:List Int×Int)(c:Nat):List Int×Int:=(Xf one.1 c,if other.2<one.2-one.1.getD c 0 then other.2 else one.2-one.1.getD c 0)
def Qkq(t:List Nat)(a:List Int×Int)(c:Nat):List Int×Int :=
 let a1:=a.1.set c (a.1.getD c 0+a.2)
 (a1.set (t.getD c 0) (a1.getD (t.getD c 0) 0-a.2),a.2*2)
def Jo(t:List Nat)(k:Nat):List Int×Int:=((List.range k).map fun i=>t.length-1-i).foldl (Qkq t) (qg t.length 0,1)
def Qcn(t:List Nat):List Int×Int:=((Jo t t.length).1,0)
theorem Vu(t:List Nat)(k:Nat):Jo t (k+1)=Qkq t (Jo t k) (t.length-1-k):=by
 unfold Jo
 rw[jYd,kK,jJf]
 rfl
theorem Qah(t:List Nat)(k:Nat):(Jo t k).1.length=t.length:=by
 induction k with
 |zero=>exact wQ ..
 |succ k ih=>
  rw[Vu]
  show((_:List Int).set _ _).length=_
  rw[wW,wW,ih]
inductive Qfg(K:Fg)(vs:List V)(H:Hp)(Q:VK)(E:XK):Prop|mk(n c:Nat)(x l:Int)(_:vs=[.int (n:Int),.int (c:Int),.int x,.int l])(_:c<n)(_:n<=1000)(_:∀t H',Same H H'->RowAt K H' t (Ya n c x l)->Q (.ref t) H'):Qfg K vs H Q E
inductive Qkr(K:Fg)(vs:List V)(H:Hp)(Q:VK)(E:XK):Prop|mk(t:Addr)(rs:List (List Int×Int))(cs:List Int)(b:Int)(_:vs=[.ref t,.int b])(_:ProbAt K H t rs cs)(_:cs.length<=1000)(_:∀t' H',Same H H'->RowAt K H' t' (Ku cs b)->Q (.ref t') H'):Qkr K vs H Q E
inductive Qpj(K:Fg)(vs:List V)(H:Hp)(Q:VK)(E:XK):Prop|mk(t:Addr)(r:List Int×Int)(b:Int)(_:vs=[.ref t,.int b])(_:RowAt K H t r)(_:r.1.length<=1000)(_:0<b)(_:Big b)(_:∀t' H',Same H H'->RowAt K H' t' (Vc r b)->Q (.ref t') H'):Qpj K vs H Q E
inductive Qhj(K:Fg)(vs:List V)(H:Hp)(Q:VK)(E:XK):Prop|mk(l:Addr)(n:Nat)(hs:List (Int×Int))(_:vs=[.int (n:Int),.ref l])(_:HoldsAt K H l hs)(_:(∀p∈hs,0<=p.1/\p.1<(n:Int)/\(p.2=0\/p.2=1)))(_:n<=1000)(_:∀t' H',Same H H'->RowAt K H' t' (Jp n hs)->Q (.ref t') H'):Qhj K vs H Q E
inductive Qco(K:Fg)(vs:List V)(H:Hp)(Q:VK)(E:XK):Prop|mk(t:Addr)(r:List Int×Int)(c:Nat)(_:vs=[.ref t,.int (c:Int)])(_:RowAt K H t r)(_:r.1.length<=1000)(_:c<r.1.length)(_:∀p H',Same H H'->SqT K H' p ((Xf r.1 c).map V.int)->Q (.ref p) H'):Qco K vs H Q E
inductive Qcp(K:Fg)(vs:List V)(H:Hp)(Q:VK)(E:XK):Prop|mk(t1 t2:Addr)(r1 r2:List Int×Int)(c:Nat)(_:vs=[.ref t1,.ref t2,.int (c:Int)])(_:RowAt K H t1 r1)(_:RowAt K H t2 r2)(_:r1.1.length<=1000)(_:c<r1.1.length)(_:∀t' H',Same H H'->RowAt K H' t' (Js r1 r2 c)->Q (.ref t') H'):Qcp K vs H Q E
inductive Qhk(K:Fg)(vs:List V)(H:Hp)(Q:VK)(E:XK):Prop|mk(l:Addr)(t:List Nat)(_:vs=[.ref l])(_:SqL K H l ((t.map fun(k:Nat)=>(k:Int)).map V.int))(_:t.length<=1000)(_:(∀k∈t,k<t.length))(_:∀t' H',Same H H'->RowAt K H' t' (Qcn t)->Q (.ref t') H'):Qhk K vs H Q E
theorem Qfh(ns:List Int)(k:Nat)(x:Int):(ns.map V.int).set k (V.int x)=(ns.set k x).map V.int:=by rw[kZa]
theorem Qcq{t:Addr}{z:Int}(h:upd H l (.tup (ns.map V.int)) t=none):RowAt K (upd (upd H l (.tup (ns.map V.int))) t (.tup [.ref l,.int z])) t (ns,z):=⟨l,Ql upd_same,Ql (by rw[Qn (Qk upd_same h)];exact upd_same)⟩
theorem scSumRow:FnScope ["count","parts","numbers","least","row","many"] ["count","parts"] (Qf Qfd):=Sc
theorem Qtk(F:Fn K mg "sum_row" Qfd)(M:Mg mg):qC 1 "sum_row" ["count","parts"] (spSum K):=by
 refine Xd F scSumRow (a:=fun f al A ae s H vs Q E hr h=>?_)
 obtain⟨l,X,z,n,rfl,hl,Y,hn,B,q⟩:=h
 refine⟨_,(Qe (Z4 2 scSumRow.nd (Qx Kq (Xp (Qa Qd Qc)) (pv 0)))
  (Qe (Z4 3 scSumRow.nd Qd)
  (Qe (Xy PassesOwn.never rfl (Xl (pv 1)) (Qvg rfl (Qbb (Z3 4 scSumRow.nd) (Qbb (Z3 5 scSumRow.nd) Qnb))) (Qe (Qei (i:=2) ["number","more","many"] [none,none,some 5] rfl scSumRow.nd rfl (inl rfl) (Qnz true false rfl M.zip_ (Qa (pv 2) (Qa (Qo Qm (pv 4) Qd) Qc))) (fun _ _ _=>(Yg (K:=K) (i:=0) (j:=1) rfl rfl (show(["number","more","many"]:List Str).Nodup by decide +kernel) rfl rfl rfl rfl)) (fun _ _ _=>Yf) (fun _ _ _=>(Qx Yw (pv 0) (Qx Qap (pv 2) (pv 1)))))
  (Qh (Qjv (i:=3) scSumRow.nd rfl (inl rfl) (Qx Qap (pv 5) (Qo Qm (pv 4) Qd)) Qnd))))
  (Qh (Qp (Xh (Qa (Qz Xb rfl M.tuple_ Xo (Qa (pv 2) Qc)) (Qa (pv 3) Qc)))))))),?_⟩
 refine Zl ?_;intros
 exists"z"
 obtain⟨N,S⟩:=id Y
 exists Z1 1,fun p0 ah=>?_
 exists 4,p0,(n:Int),4,rfl,upd_same,Om,Om,by show 1*((n:Int)).toNat<=sizeLine;lia,fun g0 ac=>?_
 have e0:(qg ((n:Int)).toNat [V.int 0]).flatten=(qg n (0:Int)).map V.int:=rep0 n
 rw[e0]
 have s0:Same H (upd (upd H p0 (.lst [.int 0])) g0 (.lst ((qg n (0:Int)).map V.int))):=(Qb ah _).trans (Qb ac _)
 let aa:Nat->St->Hp->Prop:=fun i W J=>∃(g:Addr) (u v:Option V),W=[some (.int (n:Int)),some (.ref l),some (.ref g),some (.int (Yl n (z.take i)).2),u,v]/\J g=some (.lst ((Yl n (z.take i)).1.map V.int))/\Same H J
 exists 4,l,rfl,⟨_,s0.seq hl⟩,Yq (K:=K) (a:=l) (xs:=X) aa ⟨g0,none,none,rfl,upd_same,s0⟩ (fun i W J _ h=>?_) ?_ ?_
 .obtain⟨g,u,v,rfl,r,m⟩:=h
  exact m.seq hl
 .rintro i x W J e1 ⟨g,u,v,rfl,r,m⟩
  have hi:i<X.length:=(jW.mp e1).1
  obtain⟨p,ep⟩:∃p,z[i]?=some p:=⟨_,gE Om⟩
  obtain⟨T,t,rfl,hT,q1,r1,U⟩:=S i x p e1 ep
  obtain⟨aj,R,O⟩:=B p (kX ep)
  have eS:=Qja n ep
  have lA:(Yl n (z.take i)).1.length=n:=Qaf n _ fun p' Z=>(B p' (kJf Z)).1
  generalize Yl n (z.take i)=acc at r eS lA⊢
  exists T,4,m.tup hT,rfl,_,4,7,?_
  exists 4,4,t,8,m.tup r1,at0,g,q1,rfl,⟨_,Qg r⟩,⟨_,m.tup U⟩,fun D hD=>?_
  let af:Nat->St->List V->Hp->Prop:=fun k I C G=>∃a b:Option V,I=[a,b,some (.int p.2)]/\C=((List.zipWith (fun x y=>x+p.2*y) acc.1 p.1.1).take k).map V.int/\G D=some (.lst C)/\Same J G
  refine Ys (n:=n) af ?_ (fun k I C G hk h=>?_) (fun k I C G hk h=>?_) (fun I C G h=>?_) ?_ ?_
  .exact⟨none,none,rfl,rfl,upd_same,Qb hD _⟩
  .obtain⟨a,b,rfl,rfl,c,d⟩:=h
   exists c,by rw[jQ,yY];lia
  .obtain⟨a,b,rfl,rfl,c,d⟩:=h
   have k1:k<acc.1.length:=Om
   have k2:k<p.1.1.length:=Om
   exists _,_,.int acc.1[k],.int p.1.1[k],d.seq (Qg r),(m.trans d).tup U,by rw[jY,gE k1];rfl,by rw[jY,gE k2];rfl
  .obtain⟨a,b,rfl,rfl,c,d⟩:=h
   exists _,_,d.seq (Qg r),(m.trans d).tup U,by rw[jQ,jQ];lia
  .rintro k I C G x' H3 hk ⟨a,b,rfl,rfl,c,d⟩ ⟨T2,x1,y1,rfl,L,rfl,e3,e4⟩
   obtain⟨m1,ag,rfl⟩:=Xu (e3 _ (d.seq (Qg r)))
   obtain⟨m2,ad,rfl⟩:=Xu (e4 _ ((m.trans d).tup U))
   exists T2,4,Ql upd_same,rfl,_,4,7,?_
   exists 4,4,4,7,.inl ⟨R,O⟩,7,?_,_,4,?_,upd_same,fun b' o e=>?_
   .rw[Qn (Qk c L)];exact c
   .rw[Zw (Qxe ag ad),kK];rfl
   .rw[Qn (Qk e hD),Qn (Qk (d _ _ e) L)];exact d _ _ e
  .rintro I C G ⟨a,b,rfl,rfl,c,d⟩
   rw[yW (by rw[yZd];lia)]at c
   exists 4,4,4,t,8,(m.trans d).tup r1,at1,7,.inl ⟨R,O⟩,7,D,some (.ref t),some (.int p.2),?_,?_,m.trans d
   .rw[eS];rfl
   .rw[eS];exact c
 .rintro W J ⟨g,u,v,rfl,r,m⟩
  have eT:z.take X.length=z:=by rw[N,wV]
  rw[eT]at r⊢
  exists 4,_,4,.inl ⟨Qg r,fun l2 ab=>?_⟩
  exists 4,Z1 2,fun t ht=>?_
  have nt:l2≠t:=Qk upd_same ht
  exact q t _ ((m.trans (Qb ab _)).trans (Qb ht _)) ⟨l2,Ql upd_same,Ql (by rw[Qn nt];exact upd_same)⟩
theorem scMost:FnScope ["row","holds","held","most","choice","number","worth"] ["row","holds"] (Qf Qpe):=Sc
theorem okMost(F:Fn K mg "most_of" Qpe)(M:Mg mg):qC 1 "most_of" ["row","holds"] (Qvr K):=by
 refine Xd F scMost (a:=fun f ab A O s H U Q E Y h=>?_)
 obtain⟨t,l,r,C,rfl,⟨p,N,D⟩,⟨U,hl,hp⟩,hn,hw,q⟩:=h
 have Z:=Z6 1 Y.un
 refine⟨_,(Qe (Z4 2 scMost.nd (Qz (Qhe rfl) rfl M.dict_ Qwp (Qa (pv 1) Qc)))
  (Qe (Z4 3 scMost.nd Qd)
  (Qe (Xy PassesOwn.never rfl (Qon false rfl M.enumerate_ (Qa (Qo Qm (pv 0) Qd) Qc)) (Yg (K:=K) (i:=4) (j:=5) rfl rfl scMost.nd rfl rfl rfl rfl) (Qe (Z4 6 scMost.nd (Qsu Z (pv 2) (pv 4) ⟨rfl,rfl,rfl,rfl⟩))
  (Qh (Xe (PW.pt (Yv (Qq Xz (pv 6) Qd (Qt _)) (Yh (PW.pt (Kn (Qq Qgf (pv 6) Xk (Qt _)) (Ju (Qq Qwj (pv 5) Qd (Qt _)))))))) (Qh (Qjv (i:=3) scMost.nd rfl (inl rfl) (pv 5) Qnd)) Qr))))
  (Qh (Qp (pv 3)))))),?_⟩
 refine Zl ?_;intros
 exists"z"
 exists 4,l,U,4,hl,hp,by rw[jQ];lia,fun d hd=>?_
 have S:Same H (upd H d (.dK (dOf C))):=Qb hd _
 let L:Nat->St->Hp->Prop:=fun i J B=>∃u v x:Option V,J=[some (.ref t),some (.ref l),some (.ref d),some (.int (Vp (dOf C) r.1 i)),u,v,x]/\B d=some (.dK (dOf C))/\Same H B
 exists 4,t,8,S.tup N,at0,p,rfl,⟨_,S.tup D⟩,Qkg (K:=K) (m:=false) (a:=p) (xs:=r.1.map V.int) L ⟨none,none,none,rfl,upd_same,S⟩ (fun i J B _ h=>?_) ?_ ?_
 .obtain⟨u,v,x,rfl,g,G⟩:=h
  exact G.tup D
 .rintro i x J B T e1 ⟨u,v,y,rfl,g,G⟩ W
  obtain⟨n,en,rfl⟩:=Xu e1
  have b:upd B T (.tup [.int ((i:Nat):Int),.int n]) d=some (.dK (dOf C)):=by rw[Qn (Qk g W)];exact g
  have I:=G.trans (Qb W (.tup [.int ((i:Nat):Int),.int n]))
  have o:=Qiy (dOf C) en
  exists T,4,Ql upd_same,rfl,_,4,7,?_
  exists 4,d,rfl,.inl ⟨_,.inl b⟩,4,_,DGet.k (k:=Sum.inl ((i:Nat):Int)) b,?_
  rcases Qpg hw (Sum.inl ((i:Nat):Int))with e | e | e
  .rw[e]at o⊢
   exists 4,rfl,4,iteF ⟨_,rfl,rfl,_,rfl,iteT ⟨_,rfl,_,_,rfl,rfl,_,rfl,ite2 (fun c=>?_) (fun c=>?_)⟩⟩
   .have R:0<n:=kZ c
    exists 4,4,7,some (.int ((i:Nat):Int)),some (.int n),some .non,?_,b,I
    rw[o,show Qmj none n=n from Y22 R]
    rfl
   .have R:¬0<n:=fun z=>c (zX z)
    exists some (.int ((i:Nat):Int)),some (.int n),some .non,?_,b,I
    rw[o,show Qmj none n=0 from Y20 R,Int.add_zero]
    rfl
  .rw[e]at o⊢
   exists 4,rfl,4,iteF ⟨_,rfl,rfl,_,rfl,iteF (iteF ?_)⟩
   exists some (.int ((i:Nat):Int)),some (.int n),some (.int 0),?_,b,I
   rw[o,show Qmj (some (.int 0)) n=0 from Int.zero_mul n,Int.add_zero]
   rfl
  .rw[e]at o⊢
   exists 4,rfl,4,iteT (iteT ?_)
   exists 4,4,7,some (.int ((i:Nat):Int)),some (.int n),some (.int 1),?_,b,I
   rw[o,show Qmj (some (.int 1)) n=n from Int.one_mul n]
   rfl
 .rintro J B ⟨u,v,y,rfl,g,G⟩
  rw[jQ]
  exists 4,q B G
abbrev Qfi:Stmt:=top 5
abbrev Vd:Stmt:=top 6
abbrev Wl:Stmt:=top 8
abbrev Qbe:Stmt:=top 9
theorem scSingle:FnScope ["count","choice","number","least","numbers"] ["count","choice","number","least"] (Qf Qfi):=Sc
theorem Qtl(F:Fn K mg "single_row" Qfi)(M:Mg mg):qC 1 "single_row" ["count","choice","number","least"] (Qfg K):=by
 refine Xd F scSingle (a:=fun f z A k s H I Q E L h=>?_)
 obtain⟨n,c,x,l,rfl,v,J,q⟩:=h
 refine⟨_,(Qe (Z4 4 scSingle.nd (Qx Kq (Xp (Qa Qd Qc)) (pv 0)))
  (Qe (Zo (pv 2) (Kg (pv 4) (pv 1) set_list))
  (Qh (Qp (Xh (Qa (Qz Xb rfl M.tuple_ Xo (Qa (pv 4) Qc)) (Qa (pv 3) Qc))))))),?_⟩
 refine Zd ?_;intros
 exists"z"
 exists Z1 1,fun i g=>?_
 exists 4,i,(n:Int),4,rfl,upd_same,Om,Om,by show 1*((n:Int)).toNat<=sizeLine;lia,fun a d=>?_
 have G:(qg ((n:Int)).toNat [V.int 0]).flatten=(qg n (0:Int)).map V.int:=rep0 n
 rw[G]
 have p:Same H (upd (upd H i (.lst [.int 0])) a (.lst ((qg n (0:Int)).map V.int))):=(Qb g _).trans (Qb d _)
 have y:H a=none:=by
  cases D:H a with
  |none=>rfl
  |some o=>rw[Qb g (.lst [.int 0]) _ _ D]at d;cases d
 have r:upd (upd H i (.lst [.int 0])) a (.lst ((qg n (0:Int)).map V.int)) a=some (.lst ((qg n (0:Int)).map V.int)):=upd_same
 generalize upd (upd H i (.lst [.int 0])) a (.lst ((qg n (0:Int)).map V.int))=H0 at p r⊢
 exists 4,4,4,a,_,_,c,rfl,rfl,r,Qaz (by rw[jQ,wQ];exact v),?_
 rw[Qfh]
 have C:Same H (upd H0 a (.lst (((qg n (0:Int)).set c x).map V.int))):=fun b o e=>by rw[Qn (Qk e y)];exact p _ _ e
 exists 4,a,4,.inl ⟨Qg upd_same,fun N j=>⟨_,rfl,Z1 2,fun t m=>?_⟩⟩
 exact q t _ ((C.trans (Qb j _)).trans (Qb m _)) (Qcq m)
theorem Qjd:FnScope ["problem","best"] ["problem","best"] (Qf Vd):=Sc
theorem Qje(F:Fn K mg "better_row" Vd)(M:Mg mg):qC 1 "better_row" ["problem","best"] (Qkr K):=by
 refine Xd F Qjd (fun _ _ _ _ _ _=>Zn (fun _ _=>rfl)) (fun T H Q E h=>?_) (fun f R A B s H T Q E W h=>?_)
 .obtain⟨t,I,m,b,rfl,_⟩:=h
  rfl
 obtain⟨t,I,m,b,rfl,⟨l,c,us,L,Y,J,r⟩,U,q⟩:=h
 exists _,(Qh (Qp (Xh (Qa (Qz Xb rfl M.tuple_ Xo (Qa (Zv ["cost"] [none] rfl (Qbr (Qo Qm (pv 0) Qd)) (fun _ _ _=>(Z3 0 Z2)) (fun _ _ _=>Yf) (fun _ _ _=>(Jr Zg (pv 0)))) Qc)) (Qa (Qx Yr Qd (pv 1)) Qc))))),?_
 exists"z"
 exists 4,t,8,L,at1,c,rfl,⟨_,r⟩,fun D G=>?_
 let u:Nat->St->List V->Hp->Prop:=fun i k g j=>∃v:Option V,k=[v]/\g=((m.map fun c=>-c).take i).map V.int/\j D=some (.lst g)/\Same H j
 refine Ys (n:=m.length) u ?_ (fun i k g j C h=>?_) (fun i k g j C h=>?_) (fun k g j h=>?_) ?_ ?_
 .exact⟨none,rfl,rfl,upd_same,Qb G _⟩
 .obtain⟨v,rfl,rfl,d,a⟩:=h
  exists d,by rw[jQ,yY];lia
 .obtain⟨v,rfl,rfl,d,a⟩:=h
  exists _,.int m[i],a.tup r,by rw[jY,gE C];rfl
 .obtain⟨v,rfl,rfl,d,a⟩:=h
  exists _,a.tup r,by rw[jQ];exact jZ _
 .rintro i k g j x H2 C ⟨v,rfl,rfl,d,a⟩ ⟨rfl,O⟩
  obtain⟨z,N,rfl⟩:=Xu (O _ (a.tup r))
  exists 4,4,d,4,?_,upd_same,fun Z o e=>?_
  .rw[Zw (show(m.map fun c=>-c)[i]?=some (-z)by rw[jY,N];rfl),kK];rfl
  .rw[Qn (Qk e G)];exact a _ _ e
 .rintro k g j ⟨v,rfl,rfl,d,a⟩
  rw[yW (by rw[jQ];exact jZ _)]at d
  exists D,4,.inl ⟨Qg d,fun X y=>⟨_,rfl,_,_,rfl,rfl,Z1 2,fun S p=>?_⟩⟩
  exact q S _ ((a.trans (Qb y _)).trans (Qb p _)) (Qcq p)
theorem Qmn:FnScope ["row","by"] ["row","by"] (Qf Wl):=Sc
theorem Qmo(F:Fn K mg "share_row" Wl)(M:Mg mg):qC 1 "share_row" ["row","by"] (Qpj K):=by
 refine Xd F Qmn (fun _ _ _ _ _ _=>Zn (fun _ _=>rfl)) (fun S H Q E h=>?_) (fun f O A B s H S Q E U h=>?_)
 .obtain⟨t,r,b,rfl,_⟩:=h
  rfl
 obtain⟨t,r,b,rfl,⟨p,l,a⟩,T,W,G,q⟩:=h
 exists _,(Qh (Qp (Xh (Qa (Qz Xb rfl M.tuple_ Xo (Qa (Zv ["number","by"] [none,some 1] rfl (Qbr (Qo Qm (pv 0) Qd)) (fun _ _ _=>(Z3 0 (show(["number","by"]:List Str).Nodup by decide +kernel))) (fun _ _ _=>Yf) (fun _ _ _=>(Jr Zg (Qx We (Jr Zg (pv 0)) (pv 1))))) Qc)) (Qa (Jr Zg (Qx We (Jr Zg (Qo Qm (pv 0) Qd)) (pv 1))) Qc))))),?_
 exists"z"
 exists 4,t,8,l,at0,p,rfl,⟨_,a⟩,fun D I=>?_
 let u:Nat->St->List V->Hp->Prop:=fun i k g j=>∃v:Option V,k=[v,some (.int b)]/\g=((r.1.map fun x=>-((-x).fdiv b)).take i).map V.int/\j D=some (.lst g)/\Same H j
 refine Ys (n:=r.1.length) u ?_ (fun i k g j C h=>?_) (fun i k g j C h=>?_) (fun k g j h=>?_) ?_ ?_
 .exact⟨none,rfl,rfl,upd_same,Qb I _⟩
 .obtain⟨v,rfl,rfl,d,c⟩:=h
  exists d,by rw[jQ,yY];lia
 .obtain⟨v,rfl,rfl,d,c⟩:=h
  exists _,.int r.1[i],c.tup a,by rw[jY,gE C];rfl
 .obtain⟨v,rfl,rfl,d,c⟩:=h
  exists _,c.tup a,by rw[jQ];exact jZ _
 .rintro i k g j x Z C ⟨v,rfl,rfl,d,c⟩ ⟨rfl,N⟩
  obtain⟨z,L,rfl⟩:=Xu (N _ (c.tup a))
  exists 4,4,4,7,⟨Om,G⟩,4,d,4,?_,upd_same,fun Y o e=>?_
  .rw[Zw (show(r.1.map fun x=>-((-x).fdiv b))[i]?=some (-((-z).fdiv b))by rw[jY,L];rfl),kK];rfl
  .rw[Qn (Qk e I)];exact c _ _ e
 .rintro k g j ⟨v,rfl,rfl,d,c⟩
  rw[yW (by rw[jQ];exact jZ _)]at d
  exists D,4,.inl ⟨Qg d,fun X y=>?_⟩
  have J:=c.trans (Qb y (.tup ((r.1.map fun x=>-((-x).fdiv b)).map V.int)))
  exists 4,t,8,J.tup l,at1,4,4,7,⟨Om,G⟩,4,Z1 2,fun R m=>?_
  exact q R _ (J.trans (Qb m _)) (Qcq m)
theorem scShutRow:FnScope ["count","holds","numbers","least","choice","worth"] ["count","holds"] (Qf Qbe):=Sc
theorem Qpk(F:Fn K mg "shut_row" Qbe)(M:Mg mg):qC 1 "shut_row" ["count","holds"] (Qhj K):=by
 refine Xd F scShutRow (a:=fun f ad A L s H vs Q E hr h=>?_)
 obtain⟨l,n,g,rfl,⟨Z,S,B⟩,J,hn,q⟩:=h
 refine⟨_,(Qe (Z4 2 scShutRow.nd (Qx Kq (Xp (Qa Qd Qc)) (pv 0)))
  (Qe (Z4 3 scShutRow.nd Qd)
  (Qe (Xy PassesOwn.never rfl (Xl (pv 1)) (Yg (K:=K) (i:=4) (j:=5) rfl rfl scShutRow.nd rfl rfl rfl rfl) (Qe (Zo (Qx Yr Qd (Qx Qap Qd (pv 5))) (Kg (pv 2) (pv 4) set_list))
  (Qh (Qjv (i:=3) scShutRow.nd rfl (inl rfl) (pv 5) Qvh))))
  (Qh (Qp (Xh (Qa (Qz Xb rfl M.tuple_ Xo (Qa (pv 2) Qc)) (Qa (pv 3) Qc)))))))),?_⟩
 refine Zl ?_;intros
 exists"z"
 have Y:=B.length
 rw[jQ]at Y
 exists Z1 1,fun C z=>?_
 exists 4,C,(n:Int),4,rfl,upd_same,Om,Om,by show 1*((n:Int)).toNat<=sizeLine;lia,fun k p=>?_
 have e0:(qg ((n:Int)).toNat [V.int 0]).flatten=(qg n (0:Int)).map V.int:=rep0 n
 rw[e0]
 have N:Same H (upd (upd H C (.lst [.int 0])) k (.lst ((qg n (0:Int)).map V.int))):=(Qb z _).trans (Qb p _)
 have gH:H k=none:=by
  cases e5:H k with
  |none=>rfl
  |some o=>rw[Qb z (.lst [.int 0]) _ _ e5]at p;cases p
 have X:upd (upd H C (.lst [.int 0])) k (.lst ((qg n (0:Int)).map V.int)) k=some (.lst ((qg n (0:Int)).map V.int)):=upd_same
 generalize upd (upd H C (.lst [.int 0])) k (.lst ((qg n (0:Int)).map V.int))=H0 at N X⊢
 let G:Nat->St->Hp->Prop:=fun i D y=>∃u v:Option V,D=[some (.int (n:Int)),some (.ref l),some (.ref k),some (.int (Jh (g.take i))),u,v]/\y k=some (.lst ((Yb n (g.take i)).map V.int))/\(Yb n (g.take i)).length=n/\Same H y
 exists 4,l,rfl,⟨_,N.seq S⟩,Yq (K:=K) (a:=l) (xs:=Z) G ⟨none,none,rfl,X,wQ ..,N⟩ (fun i D y _ h=>?_) ?_ ?_
 .obtain⟨u,v,rfl,d,m,r⟩:=h
  exact r.seq S
 .rintro i x D y e1 ⟨u,v,rfl,d,m,r⟩
  obtain⟨T,pr,rfl,U,hT⟩:=B.get e1
  rw[jY]at U
  obtain⟨⟨c,w⟩,O,rfl⟩:=zQ.mp U
  obtain⟨k1,k2,k3⟩:=J (c,w) (kX O)
  have ab:0<=c:=k1
  have ae:c<(n:Int):=k2
  have ag:w=0\/w=1:=k3
  have W:Yb n (g.take (i+1))=(Yb n (g.take i)).set c.toNat (1-2*w):=by unfold Yb;rw[Zw O,jJf];rfl
  have eL:Jh (g.take (i+1))=Jh (g.take i)-w:=by unfold Jh;rw[Zw O,jJf];rfl
  exists T,4,r.tup hT,rfl,_,4,7,?_
  exists 4,7,.inl ⟨Dc,Dc⟩,7,4,4,k,_,_,c.toNat,rfl,rfl,d,by rw[show c=((c.toNat:Nat):Int)by lia];exact Qaz (by rw[jQ,m];lia),?_
  exists 4,4,7,some (.int c),some (.int w),?_,?_,?_,fun b o e=>?_
  rotate_left
  .rw[upd_same,W,<-Qfh]
  .rw[W,wW];exact m
  .rw[Qn (Qk e gH)];exact r _ _ e
  .rw[eL];rfl
 .rintro D y ⟨u,v,rfl,d,m,r⟩
  have eT:g.take Z.length=g:=by rw[Y,wV]
  rw[eT]at d⊢
  exists 4,k,4,.inl ⟨Qg d,fun l2 I=>⟨_,rfl,Z1 2,fun t R=>?_⟩⟩
  exact q t _ ((r.trans (Qb I _)).trans (Qb R _)) (Qcq R)
abbrev Qbf:Stmt:=top 10
abbrev Ve:Stmt:=top 11
abbrev Qbg:Stmt:=top 12
theorem Qpl:FnScope ["row","choice"] ["row","choice"] (Qf Qbf):=Sc
theorem Qpm(F:Fn K mg "without" Qbf)(M:Mg mg):qC 1 "without" ["row","choice"] (Qco K):=by
 refine Xd F Qpl (fun _ _ _ _ _ _=>Zn (fun _ _=>rfl)) (fun T H Q E h=>?_) (fun f O A o s H T Q E W h=>?_)
 .obtain⟨t,r,c,rfl,_⟩:=h
  rfl
 obtain⟨t,r,c,rfl,⟨p,g,j⟩,U,i,q⟩:=h
 exists _,(Qh (Qp (Qx Qik (Qx Qoo (Za Qdm (Qo Qm (pv 0) Qd) Kp (Yt (pv 1))) (Xh (Qa Qd Qc))) (Za Qdm (Qo Qm (pv 0) Qd) (Yt (Qx Yw (pv 1) Qd)) Kp)))),?_
 exists"z"
 have m:(r.1.map V.int).length=r.1.length:=jQ ..
 have d:cutV (r.1.map V.int) none (some (c:Int))=(r.1.take c).map V.int:=by
  unfold cutV
  show((r.1.map V.int).drop 0).take ((if (c:Int)<0 then((c:Int)+((r.1.map V.int).length:Int)).toNat else min ((c:Int)).toNat (r.1.map V.int).length)-0)=_
  rw[Y20 (kYc.mpr (jXa c)),yYf,yQe,m,yV,jYc (kYd i),Nat.sub_zero]
 have k:cutV (r.1.map V.int) (some ((c:Int)+1)) none=(r.1.drop (c+1)).map V.int:=by
  unfold cutV
  show((r.1.map V.int).drop (if (c:Int)+1<0 then((c:Int)+1+((r.1.map V.int).length:Int)).toNat else min ((c:Int)+1).toNat (r.1.map V.int).length)).take ((r.1.map V.int).length-(if (c:Int)+1<0 then((c:Int)+1+((r.1.map V.int).length:Int)).toNat else min ((c:Int)+1).toNat (r.1.map V.int).length))=_
  rw[Y20 (show ¬(c:Int)+1<0 from kYc.mpr (jXa (c+1))),yQf]
  have e:min ((c:Int)+1).toNat (r.1.map V.int).length=c+1:=by rw[m];exact jYc (show c+1<=r.1.length from i)
  rw[e]
  apply yW
  rw[jJc]
  exact jZ _
 exists 4,t,8,g,at0,4,4,p,4,j,?_,fun J v=>?_
 .rintro⟨_,x⟩
  have b:(if (c:Int)<0 then((c:Int)+((r.1.map V.int).length:Int)).toNat else min ((c:Int)).toNat (r.1.map V.int).length)=(r.1.map V.int).length:=x
  rw[Y20 (kYc.mpr (jXa c)),m,yV,jYc (kYd i)]at b
  exact Y21 b (zV i)
 rw[d]
 have S:=Qb v (.tup ((r.1.take c).map V.int))
 exists Z1 1,fun N y=>?_
 have D:=Qb y (.tup [V.int 0])
 exists J,N,7,D.tup (Ql upd_same),Ql upd_same,by simp,by rw[jQ,yY];show _+1<=_;lia,fun C X L b=>?_
 have a:=(S.trans D).trans L
 exists 4,t,8,a.tup g,at0,4,7,4,p,4,a.tup j,?_,fun R u=>?_
 .rintro⟨x,_⟩
  have b:(if (c:Int)+1<0 then((c:Int)+1+((r.1.map V.int).length:Int)).toNat else min ((c:Int)+1).toNat (r.1.map V.int).length)=0:=x
  rw[Y20 (show ¬(c:Int)+1<0 from kYc.mpr (jXa (c+1))),m]at b
  exact Y21 ((jYc (show c+1<=r.1.length from i)).symm.trans b) (jQc c)
 rw[k]
 have l:=Qb u (.tup ((r.1.drop (c+1)).map V.int))
 have B:(Xf r.1 c).map V.int=((r.1.take c).map V.int++[V.int 0])++(r.1.drop (c+1)).map V.int:=by unfold Xf;rw[kK,kK];rfl
 exists C,R,7,l.tup b,Ql upd_same,by simp,by rw[yQ,jQ,jQ,yY,jJc];show _+1+_<=_;lia,fun z=>?_,fun z I n=>?_
 .refine q C _ (a.trans l) ?_
  have G:(Xf r.1 c).map V.int=(r.1.take c).map V.int++[V.int 0]:=by rw[B,z,kKb]
  rw[G]
  exact l.tup b
 .refine q I _ ((a.trans l).trans (Qb n _)) ?_
  rw[B]
  exact Ql upd_same
theorem Qjf:FnScope ["one","other","choice"] ["one","other","choice"] (Qf Ve):=Sc
theorem Qjg(F:Fn K mg "either_row" Ve)(M:Mg mg)(a:qC 1 "without" ["row","choice"] (Qco K)):qC 2 "either_row" ["one","other","choice"] (Qcp K):=by
 refine Xd F Qjf (fun _ _ _ _ _ _=>Qdi (fun _ _ _=>rfl)) (fun C H Q E h=>?_) (fun f x A g s H C Q E r h=>?_)
 .obtain⟨d,m,e,v,c,rfl,_⟩:=h
  rfl
 obtain⟨d,m,e,v,c,rfl,l,B,o,j,q⟩:=h
 exists _,(Qh (Qp (Xh (Qa (Xc a (r.mono Dc) (Qa (pv 0) (Qa (pv 2) Qc))) (Qa (Qi (Qgg rfl) rfl M.min Qvo (Qa (Qx Yr (Qo Qm (pv 0) Qd) (Qo Qm (Qo Qm (pv 0) Qd) (pv 2))) (Qa (Qo Qm (pv 1) Qd) Qc))) Qc))))),?_
 obtain⟨u,k,n⟩:=id l
 obtain⟨D,y,I⟩:=id B
 exists 4,4,d,e,c,rfl,l,o,j,fun p G b z=>?_
 exists 4,d,8,b.tup k,at1,4,d,8,b.tup k,at0,4,u,8,b.tup n,Yu (show(e.1.map V.int)[c]?=some (V.int (e.1.getD c 0))by rw[jY,jJ,gE j];rfl),7,4,m,8,b.tup y,at1,_,4,Z1 2,fun t i=>?_
 exact q t _ (b.trans (Qb i _)) ⟨p,Ql upd_same,(Qb i _).tup z⟩
theorem scLikeRow:FnScope ["turn","numbers","weight","choice"] ["turn"] (Qf Qbg):=Sc
theorem Qpn(F:Fn K mg "like_row" Qbg)(M:Mg mg):qC 1 "like_row" ["turn"] (Qhk K):=by
 refine Xd F scLikeRow (a:=fun f ac A D s H vs Q E hr h=>?_)
 obtain⟨l,t,rfl,J,ht,O,q⟩:=h
 refine⟨_,(Qe (Z4 1 scLikeRow.nd (Qx Kq (Xp (Qa Qd Qc)) (qL (pv 0))))
  (Qe (Z4 2 scLikeRow.nd Qd)
  (Qe (Xy PassesOwn.never rfl (Wd rfl M.range_ (Qa (Qx Yr (qL (pv 0)) Qd) (Qa (Jr Zg Qd) (Qa (Jr Zg Qd) Qc)))) (Z3 3 scLikeRow.nd) (Qe (Qnc (pv 1) (pv 3) Qkh (pv 2) Qnd set_list)
  (Qe (Qnc (pv 1) (Qo ix_list (pv 0) (pv 3)) Qkh (pv 2) Qvh set_list)
  (Qh (Qjv (i:=2) scLikeRow.nd rfl (inl rfl) Qd Qxa)))))
  (Qh (Qp (Xh (Qa (Qz Xb rfl M.tuple_ Xo (Qa (pv 1) Qc)) (Qa Qd Qc)))))))),?_⟩
 refine Zl ?_;intros
 exists"z"
 have z:((t.map fun(k:Nat)=>(k:Int)).map V.int).length=t.length:=by rw[jQ,jQ]
 exists Z1 1,fun x S=>?_
 have B:=Qb S (.lst [V.int 0])
 exists 4,l,4,.inl (B.seq J),x,7,upd_same,Om,by rw[z];lia,by rw[z];show 1*((t.length:Int)).toNat<=sizeLine;lia,fun d m=>?_
 rw[z]
 have e0:(qg ((t.length:Int)).toNat [V.int 0]).flatten=(qg t.length (0:Int)).map V.int:=rep0 t.length
 rw[e0]
 have X:H d=none:=by
  cases e5:H d with
  |none=>rfl
  |some o=>rw[B _ _ e5]at m;cases m
 have G:Same H (upd (upd H x (.lst [.int 0])) d (.lst ((qg t.length (0:Int)).map V.int))):=B.trans (Qb m _)
 have Z:upd (upd H x (.lst [.int 0])) d (.lst ((qg t.length (0:Int)).map V.int)) d=some (.lst ((qg t.length (0:Int)).map V.int)):=upd_same
 generalize upd (upd H x (.lst [.int 0])) d (.lst ((qg t.length (0:Int)).map V.int))=H0 at G Z⊢
 exists 4,l,4,.inl (G.seq J),7,4,4,?_
 rw[z]
 exists _,_,4,⟨Dc,Dc,Wi Om⟩,Vb (lo:=(t.length:Int)-1) (c:=-1) (n:=(Builtin.Range.rangeSize ((t.length:Int)-1) (-1) (-1)).toNat) (fun i I r=>∃u:Option V,I=[some (.ref l),some (.ref d),some (.int (Jo t i).2),u]/\r d=some (.lst ((Jo t i).1.map V.int))/\Same H r) ⟨none,rfl,Z,G⟩ ?_ ?_
 .rintro i I r hi ⟨u,rfl,g,R⟩
  rw[Zk]at hi
  have ec:(t.length:Int)-1+((i:Nat):Int)*(-1)=((t.length-1-i:Nat):Int):=Om
  rw[ec]
  have y:t.length-1-i<t.length:=Om
  have W:=Qah t i
  have Y:t.getD (t.length-1-i) 0<t.length:=by
   rw[jJ,gE y]
   exact O _ (jXd y)
  have L:=Vu t i
  generalize Jo t i=a at g W L⊢
  generalize t.length-1-i=c at y Y L⊢
  exists 4,4,d,8,Qg g,Yu (show(a.1.map V.int)[c]?=some (V.int (a.1.getD c 0))by rw[jY,jJ,gE Om];rfl),4,7,d,_,_,c,rfl,rfl,g,Qaz (by rw[jQ];lia),?_
  rw[Qfh]
  have p:upd r d (.lst ((a.1.set c (a.1.getD c 0+a.2)).map V.int)) d=some (.lst ((a.1.set c (a.1.getD c 0+a.2)).map V.int)):=upd_same
  have T:Same H (upd r d (.lst ((a.1.set c (a.1.getD c 0+a.2)).map V.int))):=fun b o e=>by rw[Qn (Qk e X)];exact R _ _ e
  have N:(a.1.set c (a.1.getD c 0+a.2)).length=t.length:=by rw[wW,W]
  have j:(Jo t (i+1))=((a.1.set c (a.1.getD c 0+a.2)).set (t.getD c 0) ((a.1.set c (a.1.getD c 0+a.2)).getD (t.getD c 0) 0-a.2),a.2*2):=L
  generalize a.1.set c (a.1.getD c 0+a.2)=a1 at p T N j⊢
  have U:((t.map fun(k:Nat)=>(k:Int)).map V.int)[c]?=some (V.int ((t.getD c 0:Nat):Int)):=by rw[jY,jY,jJ,gE y];rfl
  generalize t.getD c 0=k at Y j U⊢
  exists 4,4,4,l,8,T.seq J,Yu U,d,8,Qg p,Yu (show(a1.map V.int)[k]?=some (V.int (a1.getD k 0))by rw[jY,jJ,gE Om];rfl),4,7,d,_,_,k,rfl,rfl,p,Qaz (by rw[jQ];lia),?_
  rw[Qfh]
  exists 4,7,.inr ⟨Dc,Dc⟩,some (.int ((c:Nat):Int)),?_,?_,fun b o e=>?_
  rotate_left
  .rw[upd_same,j]
  .rw[Qn (Qk e X)];exact T _ _ e
  .rw[j];rfl
 .rintro I r ⟨u,rfl,g,R⟩
  rw[Zk]at g
  exists 4,d,4,.inl ⟨Qg g,fun l2 C=>⟨Z1 2,fun t2 v=>?_⟩⟩
  exact q t2 _ ((R.trans (Qb C _)).trans (Qb v _)) (Qcq v)
abbrev Wm:Stmt:=top 23
abbrev Qcr:Stmt:=top 24
theorem Qmp:FnScope ["thing","count"] ["thing","count"] (Qf Wm):=Sc
theorem Qmq(F:Fn K mg "are_holds" Wm)(M:Mg mg)(l:qC 3 "is_hold" ["thing","count"] (Qko K)):qC 4 "are_holds" ["thing","count"] (Qds K):=by
 refine Xd F Qmp (fun _ _ _ _ _ _=>Zn (fun _ _=>rfl)) (fun vs H Q E h=>?_) (fun f af A aa s H vs Q E hr h=>?_)
 .obtain⟨v,d,n,rfl,_⟩:=h
  rfl
 obtain⟨v,d,n,rfl,hv,Z,q⟩:=h
 refine⟨_,(Qe (Xe (PW.pt (Yv (Xq (Xj (Qi Xm rfl M.isinstance Qw (Qa (pv 0) (Qa (Jl M.list_ Yj) Qc))))) (Yh (Xq (Xj (Qi (Qbz rfl) rfl M.all Qod (Qa (Zv ["hold","count"] [none,some 1] rfl (Xl (pv 0)) (fun _ _ _=>(Z3 0 (show(["hold","count"]:List Str).Nodup by decide +kernel))) (fun _ _ _=>Yf) (fun _ _ _=>(Xc l (hr.mono Dc) (Qa (pv 0) (Qa (pv 1) Qc))))) Qc))))))) (Qh (Qp Qbq)) Qr)
  (Qh (Qp (Ze Xz (Qi Wh rfl M.len Qy (Qa (Qz (Qch rfl) rfl M.set_ Qox (Qa (Zv ["hold"] [none] rfl (Xl (pv 0)) (fun _ _ _=>(Z3 0 Z2)) (fun _ _ _=>Yf) (fun _ _ _=>(Qo (Zr (K:=K) rfl) (pv 0) Qd))) Qc)) Qc)) (qL (pv 0)) (Qt _))))),?_⟩
 exists"z"
 cases d with
 |lst p=>
  obtain⟨a,J,rfl,r,B,G⟩:=hv.lst_inv
  have ad:p.length<1000:=Z
  exists 4,_,"list",4,.list,hv.isi _,4,iteF ?_
  exists 4,a,rfl,⟨_,r⟩,fun D hD=>?_
  let Y:Nat->St->List V->Hp->Prop:=fun i m j t=>∃u:Option V,m=[u,some (.int (n:Int))]/\j=((p.take i).map fun d=>(Km n d).isSome).map V.bl/\t D=some (.lst j)/\Same H t
  refine Ys (n:=p.length) Y ?_ (fun i m j t L h=>?_) (fun i m j t L h=>?_) (fun m j t h=>?_) ?_ ?_
  .exact⟨none,rfl,rfl,upd_same,Qb hD _⟩
  .obtain⟨u,rfl,rfl,C,k⟩:=h
   exists C,by rw[jQ,jQ,yY];lia
  .obtain⟨u,rfl,rfl,C,k⟩:=h
   exists J,J[i]'Om,k.seq r,gE Om
  .obtain⟨u,rfl,rfl,C,k⟩:=h
   exists J,k.seq r,Om
  .rintro i m j t x I L ⟨u,rfl,rfl,C,k⟩ ⟨rfl,N⟩
   obtain⟨d,ed⟩:∃d,p[i]?=some d:=⟨_,gE L⟩
   have hx:=(G i _ _ (N _ (k.seq r)) ed).same k
   exists 4,4,_,d,n,rfl,hx,C,4,?_,upd_same,fun b o e=>?_
   .rw[Zw ed,kK,kK];rfl
   .rw[Qn (Qk e hD)];exact k _ _ e
  rintro m j t ⟨u,rfl,rfl,C,k⟩
  rw[wV]at C
  exists D,4,Qg C,?_
  have U:(p.map fun d=>(Km n d).isSome).all id=(allT (Km n) p).isSome:=by rw[Ka,List.all_map];rfl
  rw[U]
  cases W:allT (Km n) p with
  |none=>
   have:=q t k
   rw[Qjc W]at this
   exists 4,iteT this
  |some hs=>
   obtain⟨hp,ae⟩:=Qdu (n:=n) B G W
   obtain⟨el,eg⟩:=Jn W
   exists 4,iteF ?_
   exists 4,a,rfl,⟨_,k.seq r⟩,fun D2 X=>?_
   let ab:Nat->St->List V->Hp->Prop:=fun i m j I=>∃u:Option V,m=[u]/\j=((hs.map (·.1)).take i).map V.int/\I D2=some (.lst j)/\Same t I
   refine Ys (n:=p.length) ab ?_ (fun i m j I L h=>?_) (fun i m j I L h=>?_) (fun m j I h=>?_) ?_ ?_
   .exact⟨none,rfl,rfl,upd_same,Qb X _⟩
   .obtain⟨u,rfl,rfl,g,y⟩:=h
    exists g,by rw[jQ,yY];lia
   .obtain⟨u,rfl,rfl,g,y⟩:=h
    exists J,J[i]'Om,(k.trans y).seq r,gE Om
   .obtain⟨u,rfl,rfl,g,y⟩:=h
    exists J,(k.trans y).seq r,Om
   .rintro i m j I x H3 L ⟨u,rfl,rfl,g,y⟩ ⟨rfl,N⟩
    have O:=k.trans y
    obtain⟨T,pr,rfl,ep,hT⟩:=hp.get (N _ (O.seq r))
    rw[jY]at ep
    obtain⟨⟨c,w⟩,ec,rfl⟩:=zQ.mp ep
    exists 4,T,8,O.tup hT,at0,g,4,?_,upd_same,fun b o e=>?_
    .rw[Zw (show(hs.map (·.1))[i]?=some c by rw[jY,ec];rfl),kK];rfl
    .rw[Qn (Qk e X)];exact y _ _ e
   .rintro m j I ⟨u,rfl,rfl,g,y⟩
    rw[yW (by rw[jQ];lia)]at g
    exists D2,hs.map (·.1),rfl,Qg g,by rw[jQ];lia,fun d2 S ac=>?_
    have s3:=Qb ac (.set S ((hs.map (·.1)).foldl PyProof.Rows.step_dedup []).length)
    have R:=(k.trans y).trans s3
    exists d2,S,4,upd_same,4,a,J,rfl,.inl (R.seq r),rfl,?_
    have hq:=q _ R
    have:decide (V.int ((((hs.map (·.1)).foldl PyProof.Rows.step_dedup []).length:Nat):Int)=V.int (J.length:Int))=(Zz n (.lst p)).isSome:=by
     apply Qcl
     rw[decide_eq_true_iff,Qmk]
     constructor
     .intro z
      have z1:=V.int.inj z
      exists hs,W,(Qci _).mp ?_
      rw[jQ]
      lia
     .rintro⟨ag,N,e2⟩
      rw[W]at N
      cases N
      have:=(Qci _).mpr e2
      rw[jQ]at this
      rw[this,el,B]
    rw[<-this]at hq
    exact hq
 |int i=>exists 4,_,"list",4,.list,hv.isi _,4,iteT (q H (Same.refl H))
 |non=>exists 4,_,"list",4,.list,hv.isi _,4,iteT (q H (Same.refl H))
 |bl b=>exists 4,_,"list",4,.list,hv.isi _,4,iteT (q H (Same.refl H))
 |str s=>exists 4,_,"list",4,.list,hv.isi _,4,iteT (q H (Same.refl H))
 |tup p=>exists 4,_,"list",4,.list,hv.isi _,4,iteT (q H (Same.refl H))
theorem Qtm:FnScope ["thing","count"] ["thing","count"] (Qf Qcr):=Sc
theorem Qtn(F:Fn K mg "is_turn" Qcr)(M:Mg mg)(g:qC 2 "is_number_of" ["thing","count"] (Ks K)):qC 3 "is_turn" ["thing","count"] (Qkp K):=by
 refine Xd F Qtm (fun _ _ _ _ _ _=>Zn (fun _ _=>rfl)) (fun vs H Q E h=>?_) (fun f ad A U s H vs Q E hr h=>?_)
 .obtain⟨v,d,n,rfl,_⟩:=h
  rfl
 obtain⟨v,d,n,rfl,hv,S,hn,q⟩:=h
 have aa:=Z6 6 hr.un
 refine⟨_,(Qe (Xe (PW.pt (Yv (Xq (Xj (Qi Xm rfl M.isinstance Qw (Qa (pv 0) (Qa (Jl M.list_ Yj) Qc))))) (Yh (Xq (Xj (Qi (Qbz rfl) rfl M.all Qod (Qa (Zv ["choice","count"] [none,some 1] rfl (Xl (pv 0)) (fun _ _ _=>(Z3 0 (show(["choice","count"]:List Str).Nodup by decide +kernel))) (fun _ _ _=>Yf) (fun _ _ _=>(Xc g (hr.mono Dc) (Qa (pv 0) (Qa (pv 1) Qc))))) Qc))))))) (Qh (Qp Qbq)) Qr)
  (Qh (Qp (Ze (Qvm (n:=6) aa) (Qi (Qas (K:=K) rfl) rfl M.sorted Jg (Qa (pv 0) Qc)) (Qz (Jw rfl) rfl M.list_ Yj (Qa (Qen M.range_ (Qa (pv 1) Qc)) Qc)) (Qt _))))),?_⟩
 exists"z"
 cases d with
 |lst l=>
  obtain⟨a,us,rfl,J,I,B⟩:=hv.lst_inv
  have ac:l.length<64:=S
  exists 4,_,"list",4,.list,hv.isi _,4,iteF ?_
  exists 4,a,rfl,⟨_,J⟩,fun D hD=>?_
  let O:Nat->St->List V->Hp->Prop:=fun i G C p=>∃u:Option V,G=[u,some (.int (n:Int))]/\C=((l.take i).map fun d=>(numT n d).isSome).map V.bl/\p D=some (.lst C)/\Same H p
  refine Ys (n:=l.length) O ?_ (fun i G C p T h=>?_) (fun i G C p T h=>?_) (fun G C p h=>?_) ?_ ?_
  .exact⟨none,rfl,rfl,upd_same,Qb hD _⟩
  .obtain⟨u,rfl,rfl,m,j⟩:=h
   exists m,by rw[jQ,jQ,yY];lia
  .obtain⟨u,rfl,rfl,m,j⟩:=h
   exists us,us[i]'Om,j.seq J,gE Om
  .obtain⟨u,rfl,rfl,m,j⟩:=h
   exists us,j.seq J,Om
  .rintro i G C p x H2 T ⟨u,rfl,rfl,m,j⟩ ⟨rfl,e1⟩
   obtain⟨d,ed⟩:∃d,l[i]?=some d:=⟨_,gE T⟩
   have hx:=(B i _ _ (e1 _ (j.seq J)) ed).same j
   exists 4,4,_,d,n,rfl,hx,m,4,?_,upd_same,fun b o e=>?_
   .rw[Zw ed,kK,kK];rfl
   .rw[Qn (Qk e hD)];exact j _ _ e
  rintro G C p ⟨u,rfl,rfl,m,j⟩
  rw[wV]at m
  exists D,4,Qg m,?_
  have L:(l.map fun d=>(numT n d).isSome).all id=(allT (numT n) l).isSome:=by rw[Ka,List.all_map];rfl
  rw[L]
  cases N:allT (numT n) l with
  |none=>
   have:=q p j
   rw[Qml N]at this
   exists 4,iteT this
  |some t=>
   obtain⟨ev,W⟩:=Qhi (n:=n) I B N
   obtain⟨el,eg⟩:=Jn N
   exists 4,iteF ?_
   exists 4,a,t.map fun(k:Nat)=>(k:Int),rfl,by rw[<-ev];exact j.seq J,by rw[jQ];lia,fun D2 qs ab hp hs=>?_
   have s2:=Qb ab (.lst (qs.map V.int))
   exists 4,(n:Int),rfl,fun r Y=>?_
   have s3:=Qb Y (.rng 0 (n:Int))
   exists r,(n:Int),rfl,upd_same,Om,Om,fun l2 R=>?_
   have X:=Qb R (.lst ((List.range ((n:Int)).toNat).map fun i=>V.int (i:Nat)))
   have e2:((List.range ((n:Int)).toNat).map fun i=>V.int (i:Nat))=(Wk n).map V.int:=by unfold Wk;rw[kXb];rfl
   rw[e2]at X⊢
   have Z:=((j.trans s2).trans s3).trans X
   exists D2,l2,7,lstD (X.seq (s3.seq (Qg upd_same))),lstD (Qg upd_same),?_,fun c hc=>?_
   .refine .lst fun i x y e3 e4=>?_
    rw[jY]at e3 e4
    obtain⟨a3,_,rfl⟩:=zQ.mp e3
    obtain⟨b3,_,rfl⟩:=zQ.mp e4
    exact .int _ _
   have hq:=q _ Z
   have:c=(Qad n (.lst l)).isSome:=by
    apply Qcl
    rw[hc,Qmm N,<-Qcm W hp hs]
    constructor
    .intro z
     have z1:qs.map L2.D.int=(Wk n).map L2.D.int:=by injection z
     exact(List.map_inj_right (fun _ _ h=>by cases h;rfl)).mp z1
    .intro z;rw[z]
   rw[<-this]at hq
   exact hq
 |int i=>exists 4,_,"list",4,.list,hv.isi _,4,iteT (q H (Same.refl H))
 |non=>exists 4,_,"list",4,.list,hv.isi _,4,iteT (q H (Same.refl H))
 |bl b=>exists 4,_,"list",4,.list,hv.isi _,4,iteT (q H (Same.refl H))
 |str s=>exists 4,_,"list",4,.list,hv.isi _,4,iteT (q H (Same.refl H))
 |tup l=>exists 4,_,"list",4,.list,hv.isi _,4,iteT (q H (Same.refl H))
abbrev Qfj:Stmt:=top 17
abbrev Qcs:Stmt:=top 18
abbrev Row:=L2.Row
def ledR(t:List Nat)(n:Nat)(r:Row):Row:=(put r.1 t n,r.2)
def Qks(cs:List Int)(t:List Nat)(n:Nat):Prop:=∀i,i<n->cs.getD i 0=cs.getD (t.getD i 0) 0
def Qct(rs:List Row)(cs:List Int)(t:List Nat)(n:Nat):Prop:=Qks cs t n/\(rs.map (ledR t n)).Perm rs
theorem Qai:∀{xs ys:List Row},xs.Perm ys->xs.Pairwise (fun x y=>Zt y x=false)->ys.Pairwise (fun x y=>Zt y x=false)->xs=ys
 |[],ys,p,_,_=>(List.nil_perm.mp p).symm
 |x::xs,[],p,_,_=>Y21 (List.perm_nil.mp p) (by simp)
 |x::xs,y::ys,p,h1,h2=>by
  obtain⟨f,b⟩:=kXa.mp h1
  obtain⟨c,d⟩:=kXa.mp h2
  have a:x=y:=by
   have mx:x∈y::ys:=p.mem_iff.mp kY
   have my:y∈x::xs:=p.mem_iff.mpr kY
   rcases zK.mp mx with e | mx
   .exact e
   .rcases zK.mp my with e | my
    .exact e.symm
    .exact Qce (c x mx) (f y my) |>.symm▸rfl
  subst a
  rw[Qai (p.cons_inv) b d]
theorem Qfk{α β:Type}{f:α->β}(c:∀a b,f a=f b->a=b):∀{xs ys:List α},xs.map f=ys.map f->xs=ys
 |[],[],_=>rfl
 |[],y::ys,h=>by simp at h
 |x::xs,[],h=>by simp at h
 |x::xs,y::ys,h=>by
  rw[xZ,xZ]at h
  injection h with d e
  rw[c _ _ d,Qfk c e]
theorem Qto{r q:Row}(h:rowD r=rowD q):r=q:=by
 unfold rowD at h
 injection h with h
 injection h with d c
 injection d with d
 injection c with c _
 injection c with c
 exact Prod.ext (Qfk (fun a b e=>by injection e) d) c
theorem rowsD_inj{xs ys:List Row}:(D.lst (xs.map rowD)=D.lst (ys.map rowD))↔xs=ys:=by
 constructor
 .intro h
  injection h with h
  exact Qfk (fun a b e=>Qto e) h
 .rintro rfl;rfl
theorem Qhl{x y:Int}[i:Decidable (V.int x=V.int y)]:decide (V.int x=V.int y)=decide (x=y):=decide_eq_decide.mpr ⟨fun h=>V.int.inj h,fun h=>congrArg V.int h⟩
theorem Qfl{n:Int}(e:ns[i]?=some n):ns.getD i 0=n:=by rw[jJ,e];rfl
theorem Qkt{ns:List Nat}(e:ns[i]?=some n):ns.getD i 0=n:=by rw[jJ,e];rfl
theorem atK6{k:Nat}(h:k<cs.length):atI (cs.map V.int) ((k:Nat):Int)=some (.int (cs.getD k 0)) :=
 Yu (by rw[jY,jJ,gE h];rfl)
theorem getT(T:IsTurn n t)(h:i<n):t[i]?=some (t.getD i 0)/\t.getD i 0<n:=by
 have a:i<t.length:=by rw[T.length];exact h
 have e:t[i]?=some (t.getD i 0):=by rw[jJ,gE a];rfl
 exists e,T.lt e
theorem any_no:(((List.range n).map fun j=>!decide (cs.getD j 0=cs.getD (t.getD j 0) 0)).any id)=true↔¬Qks cs t n:=by
 rw[kJd]
 constructor
 .rintro⟨b,c,e⟩ h
  obtain⟨j,d,rfl⟩:=zW.mp c
  have a:(!decide (cs.getD j 0=cs.getD (t.getD j 0) 0))=true:=e
  rw[zX (h j (wZ.mp d))]at a
  cases a
 .intro h
  refine Classical.byContradiction fun z=>h fun i f=>Classical.byContradiction fun y=>z ⟨_,zW.mpr ⟨i,wZ.mpr f,rfl⟩,?_⟩
  show(!decide (cs.getD i 0=cs.getD (t.getD i 0) 0))=true
  rw[zJ y];rfl
theorem Qpo{rs:List Row}{t:Addr}{r:Row}(h:RowsAre K H vs rs)(z:RowAt K H t r):RowsAre K H (vs++[.ref t]) (rs++[r]):=RowsAre.snoc h z
theorem Vf{rs:List Row}(e:Same H H')(h:RowsAre K H vs rs):RowsAre K H' vs rs:=h.imp fun _ _ z=>z.same e
theorem Qpp{D:Addr}{rs:List Row}(a:H D=some (.lst ys))(h:RowsAre K H vs rs):RowsAre K (upd H D (.lst zs)) vs rs:=h.imp fun _ _ z=>z.upd a
theorem Qpq{t1 t2:TS}{D:Ends}(a:St->Hp->Prop)(b:∀σ' H',a σ' H'->t2 D σ' H')(c:(∀σ' H',a σ' H'->t2 D σ' H')->t1 { D with nx:=t2 D } σ H):tSeq t1 t2 D σ H:=c b
theorem Qku{t1 t2:TS}{D:Ends}{x:V}(a:St->Hp->Prop)(b:∀σ' H',a σ' H'->t2 D σ' H')(c:(∀σ' H',a σ' H'->t2 D σ' H')->t1 { D with nx:=t2 D } (σ.set i (some x)) H):Qna i x σ H ({ D with nx:=tSeq t1 t2 D }:Ends).nx:=c b
inductive spKT(K:Fg)(vs:List V)(H:Hp)(Q:VK)(E:XK):Prop|mk(p u:Addr)(rs:List Row)(cs:List Int)(n:Nat)(t:List Nat)(_:vs=[.ref p,.ref u])(_:ProbAt K H p rs cs)(_:SqL K H u ((tI t).map V.int))(_:IsTurn n t)(_:n<=100)(_:(∀r∈rs,r.1.length=n))(_:cs.length=n)(_:rs.length<60)(_:∀(c:Bool) (H':Hp),Same H H'->(c=true↔Qct rs cs t n)->Q (.bl c) H'):spKT K vs H Q E
theorem scTurned:FnScope ["row","turn","numbers","number","place"] ["row","turn"] (Qf Qfj):=Sc
theorem Qtp(F:Fn K mg "turned" Qfj)(M:Mg mg):qC 1 "turned" ["row","turn"] (Qke K):=by
 refine Xd F scTurned (a:=fun f ab A N s H vs Q E hr h=>?_)
 obtain⟨r,u,row,n,t,rfl,⟨p,B,C⟩,g,T,hl,hn,q⟩:=h
 refine⟨_,(Qe (Z4 2 scTurned.nd (Qx Kq (Xp (Qa Qd Qc)) (qL (pv 1))))
  (Qe (Xy PassesOwn.never rfl (Qnz false true rfl M.zip_ (Qa (Qo Qm (pv 0) Qd) (Qa (pv 1) Qc))) (Yg (K:=K) (i:=3) (j:=4) rfl rfl scTurned.nd rfl rfl rfl rfl) (Qh (Zo (pv 3) (Kg (pv 2) (pv 4) set_list))))
  (Qh (Qp (Xh (Qa (Qz Xb rfl M.tuple_ Xo (Qa (pv 2) Qc)) (Qa (Qo Qm (pv 0) Qd) Qc))))))),?_⟩
 refine Zd ?_;intros
 exists"z"
 have lt:=T.length
 exists Z1 1,fun S O=>?_
 have R:Same H (upd H S (.lst [.int 0])):=Qb O _
 exists 4,u,4,.inl (R.seq g),S,7,upd_same,Om,?_,?_,fun m l=>?_
 .rw[jQ,Vn];lia
 .rw[jQ,Vn,yYb];lia
 have J:=R.trans (Qb l (.lst (qg (Int.toNat ((((tI t).map V.int).length:Nat):Int)) [V.int 0]).flatten))
 have e0:(qg (Int.toNat ((((tI t).map V.int).length:Nat):Int)) [V.int 0]).flatten=(put row.1 t 0).map V.int:=by
  rw[rep1,jQ,Vn]
  show _=(qg t.length 0).map V.int
  rw[List.map_replicate]
  rfl
 let L:Nat->St->Hp->Prop:=fun i I D=>∃v w:Option V,I=[some (.ref r),some (.ref u),some (.ref m),v,w]/\D m=some (.lst ((put row.1 t i).map V.int))/\Same H D
 exists 4,r,8,J.tup B,at0,4,p,u,rfl,⟨_,J.tup C⟩,⟨_,J.seq g⟩,Qwq (K:=K) (m1:=false) (m2:=true) (a:=p) (b:=u) (xs:=row.1.map V.int) (ys:=(tI t).map V.int) L ⟨none,none,rfl,?_,J⟩ (fun i I D _ h=>?_) ?_ ?_
 .rw[upd_same,e0]
 .obtain⟨v,w,rfl,c,d⟩:=h
  exists d.tup C,d.seq g
 .rintro i x y I D Y e1 e2 ⟨v,w,rfl,c,d⟩ X
  obtain⟨x,ex,rfl⟩:=Xu e1
  obtain⟨y,Z,rfl⟩:=Xu e2
  obtain⟨k,W,rfl⟩:=Qwt Z
  have nT:m≠Y:=Qk c X
  exists Y,4,Ql upd_same,rfl,_,4,7,?_
  exists 4,4,4,m,_,_,k,rfl,rfl,by rw[Qn nT];exact c,Qaz (by rw[jQ,Qaa,lt];exact T.lt W),_,_,rfl,?_,fun b o e=>?_
  .rw[upd_same,Qkd ex W,kZa]
  .have nb:b≠m:=fun z=>by subst z;rw[R _ _ e]at l;cases l
   rw[Qn nb,Qn (Qk (d _ _ e) X)]
   exact d _ _ e
 .rintro I D ⟨v,w,rfl,c,d⟩
  have em:min (row.1.map V.int).length ((tI t).map V.int).length=n:=by rw[jQ,jQ,Vn];lia
  rw[em]at c
  exists 4,m,4,.inl ⟨Qg c,fun w hw=>?_⟩
  have U:=d.trans (Qb hw (.tup ((put row.1 t n).map V.int)))
  exists 4,r,8,U.tup B,at1,Z1 2,fun r' G=>?_
  exact q r' _ (U.trans (Qb G _)) ⟨w,Ql upd_same,Ql (by rw[Qn (Qk upd_same G)];exact upd_same)⟩
theorem scKeepsT:FnScope ["problem","turn","rows","costs"] ["problem","turn"] (Qf Qcs):=Sc
theorem Qtq(F:Fn K mg "turn_keeps" Qcs)(M:Mg mg)(C:qC 1 "turned" ["row","turn"] (Qke K)):qC 2 "turn_keeps" ["problem","turn"] (spKT K):=by
 refine Xd F scKeepsT (a:=fun f ap A ak s H vs Q E hr h=>?_)
 obtain⟨p,u,rs,cs,n,t,rfl,pr,J,T,hn,ad,aq,au,q⟩:=h
 have Y:=Z6 6 hr.un
 refine⟨_,(Qe (Z4 2 scKeepsT.nd (Qo Qm (pv 0) Qd))
  (Qe (Z4 3 scKeepsT.nd (Qo Qm (pv 0) Qd))
  (Qe (Xe (Xj (Qi (Qgt rfl) rfl M.any Qvn (Qa (Zv ["cost","place","costs"] [none,none,some 3] rfl (Qnz false true rfl M.zip_ (Qa (pv 3) (Qa (pv 1) Qc))) (fun _ _ _=>(Yg (K:=K) (i:=0) (j:=1) rfl rfl (show(["cost","place","costs"]:List Str).Nodup by decide +kernel) rfl rfl rfl rfl)) (fun _ _ _=>Yf) (fun _ _ _=>(Ze Qaw (pv 0) (Qo (Zr (K:=K) rfl) (pv 2) (pv 1)) (Qt _)))) Qc))) (Qh (Qp Qbq)) Qr)
  (Qh (Qp (Ze (Qvm (n:=6) Y) (Qi (Jm (K:=K) rfl Y) rfl M.sorted Jg (Qa (Zv ["row","turn"] [none,some 1] rfl (Xl (pv 2)) (fun _ _ _=>(Z3 0 (show(["row","turn"]:List Str).Nodup by decide +kernel))) (fun _ _ _=>Yf) (fun _ _ _=>(Xc C (hr.mono Dc) (Qa (pv 0) (Qa (pv 1) Qc))))) Qc)) (Qi (Jm (K:=K) rfl Y) rfl M.sorted Jg (Qa (pv 2) Qc)) (Qt _))))))),?_⟩
 refine Zl ?_;intros
 exists"z"
 obtain⟨l,c,vs,ht,hl,X,Z⟩:=id pr
 have lt:=T.length
 have lv:=X.length
 exists 4,p,8,ht,at0,?_
 exists 4,p,8,ht,at1,?_
 exists 4,4,c,u,rfl,⟨_,Z⟩,⟨_,J⟩,fun D hD=>?_
 let ac:Nat->St->List V->Hp->Prop:=fun i G g N=>∃u' v':Option V,G=[u',v',some (.ref c)]/\g=((List.range i).map fun j=>!decide (cs.getD j 0=cs.getD (t.getD j 0) 0)).map V.bl/\N D=some (.lst g)/\Same H N
 refine Ys (n:=n) ac ?_ (fun i G g N hi h=>?_) (fun i G g N hi h=>?_) (fun G g N h=>?_) ?_ ?_
 .exact⟨none,none,rfl,rfl,upd_same,Qb hD _⟩
 .obtain⟨u',v',rfl,rfl,m,a⟩:=h
  exists m,by rw[jQ,jQ,xK];lia
 .obtain⟨u',v',rfl,rfl,m,a⟩:=h
  have i1:i<cs.length:=Om
  have i2:i<(tI t).length:=by rw[Vn];lia
  exists _,_,.int cs[i],.int (tI t)[i],a.tup Z,a.seq J,by rw[jY,gE i1];rfl,by rw[jY,gE i2];rfl
 .obtain⟨u',v',rfl,rfl,m,a⟩:=h
  exists _,_,a.tup Z,a.seq J,by rw[jQ,jQ,Vn];lia
 .rintro i G g N x L hi ⟨u',v',rfl,rfl,m,a⟩ ⟨T',x1,y1,rfl,hT,rfl,e1,e2⟩
  obtain⟨x,ex,rfl⟩:=Xu (e1 _ (a.tup Z))
  obtain⟨y,ey,rfl⟩:=Xu (e2 _ (a.seq J))
  obtain⟨k,ek,rfl⟩:=Qwt ey
  have sT:=Qb hT (.tup [.int x,.int ((k:Nat):Int)])
  have O:=sT _ _ m
  exists T',4,Ql upd_same,rfl,_,4,7,?_
  exists 4,4,4,c,8,sT.tup (a.tup Z),atK6 (by have:=T.lt ek;lia),rfl,O,_,4,?_,upd_same,fun b o e=>?_
  .rw[jYd,kK,kK,xZ,xZ,kYe,Qfl ex,Qkt ek,Qhl]
   rfl
  .rw[Qn (Qk e hD)];exact sT _ _ (a _ _ e)
 rintro G g N ⟨u',v',rfl,rfl,m,a⟩
 exists D,4,Qg m,4,ite2 (fun y=>?_) (fun y=>?_)
 .refine q false N a ⟨fun z=>(nomatch z),fun z=>Y21 z.1 (any_no.mp y)⟩
 .have ok:Qks cs t n:=Classical.byContradiction fun z=>y (any_no.mpr z)
  exists 4,l,rfl,⟨_,a.seq hl⟩,fun D2 O=>?_
  let ag:Nat->St->List V->Hp->Prop:=fun i G g L=>∃v:Option V,G=[v,some (.ref u)]/\RowsAre K L g ((rs.take i).map (ledR t n))/\L D2=some (.lst g)/\Same N L
  refine Ys (n:=rs.length) ag ?_ (fun i G g L hi h=>?_) (fun i G g L hi h=>?_) (fun G g L h=>?_) ?_ ?_
  .exact⟨none,rfl,.nil,upd_same,Qb O _⟩
  .obtain⟨v,rfl,d,B,I⟩:=h
   have:=d.length
   rw[jQ,yY]at this
   exists B,Om
  .obtain⟨v,rfl,d,B,I⟩:=h
   exists vs,vs[i]'Om,(a.trans I).seq hl,gE Om
  .obtain⟨v,rfl,d,B,I⟩:=h
   exists vs,(a.trans I).seq hl,Om
  .rintro i G g L x H3 hi ⟨v,rfl,d,B,I⟩ ⟨rfl,e1⟩
   obtain⟨t',r,rfl,er,aj⟩:=X.get (e1 _ ((a.trans I).seq hl))
   exists 4,4,t',u,r,n,t,rfl,aj.same (a.trans I),(a.trans I).seq J,T,ad r (kX er),Om,fun r' H4 R rr=>?_
   have W:=R _ _ B
   exists W,4,?_,upd_same,fun b o e=>?_
   .rw[Zw er,kK]
    exact Qpo (Qpp W (Vf R d)) (rr.upd W)
   .rw[Qn (Qk e O)];exact R _ _ (I _ _ e)
  rintro G g L ⟨v,rfl,d,B,I⟩
  rw[wV]at d
  have ly:=d.length
  rw[jQ]at ly
  have U:=a.trans I
  exists D2,g,4,Qg B,d,Om,fun S ws qs hS al ar pq sq=>?_
  have s3:=Qb hS (.lst ws)
  exists 4,l,vs,rs,rfl,(U.trans s3).seq hl,Vf (U.trans s3) X,Om,fun S2 ae ah ai ab am aa af=>?_
  have R:=Qb ai (.lst ae)
  exists S,S2,7,RowsAre.hasD (Qg (R _ _ upd_same)) (Vf (s3.trans R) al),RowsAre.hasD (Qg upd_same) (Vf R ab),Qgx qs ah,fun c Z=>q c _ ((U.trans s3).trans R) ?_
  rw[Z,rowsD_inj]
  constructor
  .rintro rfl
   exists ok,pq.symm.trans aa
  .intro h
   exact Qai (pq.trans (h.2.trans aa.symm)) sq af
abbrev Qfm:Stmt:=top 25
abbrev Qtr:Stmt:=top 26
abbrev Qkv:Stmt:=top 27
abbrev Qbh:Stmt:=top 28
abbrev Rw:=List Int×Int
def rowK(rs:List Rw)(k:Nat):Rw:=rs.getD k ([],0)
def Qvs(rs:List Rw):List Dt->Option Rw
 |[_,d]=>(numT rs.length d).map (rowK rs)
 |_=>none
def tLow(n:Nat):List Dt->Option Rw
 |[_,d]=>(numT n d).map fun c=>Ya n c 1 0
 |_=>none
def tHigh(n:Nat):List Dt->Option Rw
 |[_,d]=>(numT n d).map fun c=>Ya n c (-1) (-1)
 |_=>none
def Qpr(cs:List Int)(best:Option Int):List Dt->Option Rw
 |[_]=>best.map (Ku cs)
 |_=>none
def partsOf(told:List Rw)(qs:List (Nat×Int)):List Part:=qs.map fun p=>(rowK told p.1,p.2)
def sumD(n:Nat)(told:List Rw):Dt->Option Rw
 |.lst (d::r)=>(allT (Jz told.length) (d::r)).map fun qs=>Yl n (partsOf told qs)
 |_=>none
def tSum(n:Nat)(told:List Rw):List Dt->Option Rw
 |[_,d]=>sumD n told d
 |_=>none
def divides(r:Rw)(b:Int):Bool:=r.1.all fun x=>decide (x % b=0)
def Qdv(told:List Rw)(d:Dt):Dt->Option Rw
 |.int b=>if 1<=b then(numT told.length d).bind fun k=>if divides (rowK told k) b=true then some (Vc (rowK told k) b)else none else none
 |_=>none
def Qvt(told:List Rw):List Dt->Option Rw
 |[_,d,e]=>Qdv told d e
 |_=>none
def Wn(r:Rw)(hs:List (Int×Int)):Int:=Vp (dOf hs) r.1 r.1.length
def tShut(n:Nat)(told:List Rw):List Dt->Option Rw
 |[_,d,e]=>(numT told.length d).bind fun k=>(Zz n e).bind fun hs=>if Wn (rowK told k) hs<(rowK told k).2 then some (Jp n hs)else none
 |_=>none
def Qps(n:Nat)(told:List Rw):List Dt->Option Rw
 |[_,d,e,f]=>(numT told.length d).bind fun i=>(numT told.length e).bind fun j=>(numT n f).bind fun c=>if Xf (rowK told i).1 c=Xf (rowK told j).1 c then some (Js (rowK told i) (rowK told j) c)else none
 |_=>none
open Classical in
def tLike(rs:List Rw)(cs:List Int):List Dt->Option Rw
 |[_,d]=>(Qad cs.length d).bind fun t=>if Qct rs cs t cs.length then some (Qcn t)else none
 |_=>none
def Ja(w:Str)(rs:List Rw)(cs:List Int)(best:Option Int)(told:List Rw)(xs:List Dt):Option Rw :=
 if w="given" then Qvs rs xs else if w="low" then tLow cs.length xs else if w="high" then tHigh cs.length xs else if w="better" then Qpr cs best xs
 else if w="sum" then tSum cs.length told xs else if w="share" then Qvt told xs else if w="shut" then tShut cs.length told xs else if w="either" then Qps cs.length told xs
 else if w="like" then tLike rs cs xs else none
def lenW(w:Str):Option Nat :=
 if w="given" then some 2 else if w="low" then some 2 else if w="high" then some 2 else if w="better" then some 1
 else if w="sum" then some 2 else if w="share" then some 3 else if w="shut" then some 3 else if w="either" then some 4
 else if w="like" then some 2 else none
inductive Sm:Dt->Prop
 |non:Sm .non
 |bl (b:_):Sm (.bl b)
 |str (s:_):Sm (.str s)
 |int (i:_):-(2 ^ 62)<i->i<2 ^ 62->Sm (.int i)
 |tup (xs:_):(∀x∈xs,Sm x)->Sm (.tup xs)
 |lst (xs:_):xs.length<60->(∀x∈xs,Sm x)->Sm (.lst xs)
def Vk:Option Int->V
 |none=>.non
 |some b=>.int b
structure Jx(K:Fg)(H:Hp)(t l:Addr)(rs:List Rw)(cs:List Int)(ws:List V)(told:List Rw):Prop where
 prob:ProbAt K H t rs cs
 lst:SqL K H l ws
 rows:RowsAre K H ws told
 rl:∀r∈rs,r.1.length=cs.length
 tl:∀r∈told,r.1.length=cs.length
 n:cs.length<=50
 m:rs.length<60
 k:told.length<=2000
theorem Jx.row{t:Addr}{rs:List Rw}{told:List Rw}(h:Jx K H t l rs cs ws told){k:Nat}(f:k<told.length):∃a,ws[k]?=some (.ref a)/\RowAt K H a (rowK told k)/\(rowK told k).1.length=cs.length:=by
 have g:=h.rows.length
 obtain⟨a,r,e,b,d⟩:=h.rows.get (gE (show k<ws.length by lia))
 have c:rowK told k=r:=by unfold rowK;rw[jJ,b];rfl
 rw[c]
 exists a,by rw[gE (show k<ws.length by lia),e],d,h.tl r (kX b)
theorem Jx.ne{t:Addr}{rs:List Rw}{told:List Rw}(h:Jx K H t l rs cs ws told)(i:Nat)(w:V)(e:ws[i]?=some w):w≠.non:=by
 obtain⟨a,r,rfl,_,_⟩:=h.rows.get e
 exact fun z=>nomatch z
def okW(n:Nat)(w:Str)(xs:List Dt):Prop:=True
def okD(n:Nat)(d:Dt):Prop:=∀w xs,d=.tup (.str w::xs)->lenW w=some (xs.length+1)->okW n w (.str w::xs)
inductive Zm(K:Fg)(wd:Str)(vs:List V)(H:Hp)(Q:VK)(E:XK):Prop|mk(t l ln:Addr)(rs:List Rw)(cs:List Int)(best:Option Int)(ws:List V)(told:List Rw)(us:List V)(xs:List Dt)(_:vs=[.ref t,Vk best,.ref l,.ref ln])(_:Jx K H t l rs cs ws told)(_:SqT K H ln us)(_:us.length=xs.length)(_:(∀(i:Nat) v x,us[i]?=some v->xs[i]?=some x->HasT K H v x))(_:(∀x∈xs,Sm x))(_:lenW wd=some xs.length)(_:okW cs.length wd xs)(_:(Ja wd rs cs best told xs=none->∀H',Same H H'->Q .non H'))(_:∀r,Ja wd rs cs best told xs=some r->∀t' H',Same H H'->RowAt K H' t' r->Q (.ref t') H'):Zm K wd vs H Q E
theorem Jc{i:Int}(h:HasT K H v (.int i)):v=.int i:=by cases h;rfl
theorem Sm.int_inv{i:Int}(h:Sm (.int i)):-(2 ^ 62)<i/\i<2 ^ 62:=by cases h with | int _ a b=>exists a,b
theorem Sm.lst_inv{xs:List Dt}(h:Sm (.lst xs)):xs.length<60/\∀x∈xs,Sm x:=by cases h with | lst _ a b=>exists a,b
theorem Sm.tup_inv{xs:List Dt}(h:Sm (.tup xs)):∀x∈xs,Sm x:=by cases h with | tup _ a=>exact a
theorem big62{b:Int}(a:1<=b)(c:b<2 ^ 62):Big b:=xQ (show b.natAbs<=2 ^ 62 by lia) Dk
theorem Qdw{d:Dt}(h:Sm d):lenT d<60:=by
 cases h with
 |lst xs a b=>exact a
 |_=>show 0<60;decide
theorem Qhm{xs:List Dt}(h:Qad n (.lst xs)=some t):allT (numT n) xs=some t/\t.Nodup/\t.length=n:=by
 have d:Qix n xs=some t:=h
 unfold Qix at d
 obtain⟨c,e,a⟩:=jQd.mp d
 by_cases b:c.Nodup/\c.length=n
 .rw[Y22 b]at a;cases a;exists e,b
 .rw[Y20 b]at a;cases a
theorem holds_of{xs:List Dt}(h:Zz n (.lst xs)=some hs):allT (Km n) xs=some hs/\(hs.map (·.1)).Nodup:=by
 have c:Qcj n xs=some hs:=h
 unfold Qcj at c
 obtain⟨d,e,a⟩:=jQd.mp c
 by_cases b:(d.map (·.1)).Nodup
 .rw[Y22 b]at a;cases a;exists e,b
 .rw[Y20 b]at a;cases a
theorem Qmr{d:Dt}(h:Zz n d=some hs):∃xs,d=.lst xs:=by
 unfold Zz at h
 split at h
 .exact⟨_,rfl⟩
 .cases h
theorem Qhn{d:Dt}(h:Qad n d=some t):∃xs,d=.lst xs:=by
 unfold Qad at h
 split at h
 .exact⟨_,rfl⟩
 .cases h
theorem Qts:FnScope (qB 0) (qB 0) (Qf Qfm):=Sc
theorem Qtt(F:Fn K mg "told_given" Qfm)(M:Mg mg)(b:qC 2 "is_number_of" ["thing","count"] (Ks K)):qC 4 "told_given" (qB 0) (Zm K "given"):=by
 refine Xd F Qts (fun _ _ _ _ _ _=>Qba (fun _ _ _ _=>rfl)) (fun vs H Q E h=>?_) (fun f ad A z s H vs Q E hr h=>?_)
 .obtain⟨t,l,G,j,x,i,ws,told,us,y,rfl,_⟩:=h
  rfl
 obtain⟨t,l,G,j,x,i,ws,told,us,y,rfl,J,p,B,q,C,D,ab,O,N⟩:=h
 refine⟨_,(Qe (Xe (Xq (Xj (Xc b (hr.mono Dc) (Qa (Qo Qm (pv 3) Qd) (Qa (qL (Qo Qm (pv 0) Qd)) Qc))))) (Qh (Qp Xk)) Qr)
  (Qh (Qp (Qo ix_list (Qo Qm (pv 0) Qd) (Qo Qm (pv 3) Qd))))),?_⟩
 obtain⟨Z,c0,c,T,o,d,aa⟩:=id J.prob
 have R:=d.length
 have ac:=J.rows.length
 have U:=J.n
 have W:=J.m
 have v:=J.k
 have lc:(x.map V.int).length=x.length:=jQ ..
 have S:y.length=2:=(Y5 (show some 2=some y.length from D)).symm
 obtain⟨I,g,rfl⟩:∃I g,y=[I,g]:=len2 S
 obtain⟨Y,u,rfl⟩:∃Y u,us=[Y,u]:=len2 B
 have X:=q 1 u g rfl rfl
 have m1:=C g (List.Mem.tail _ (List.Mem.head _))
 have eq:Ja "given" j x i told [I,g]=(numT j.length g).map (rowK j):=rfl
 rw[eq]at O N
 exists 4,G,8,p,(show atI _ ((1:Nat):Int)=some _ from Yu rfl),4,t,8,T,at0,Z,4,.inl o,u,g,c.length,rfl,X,4,?_
 rw[R]
 cases e:numT j.length g with
 |none=>rw[e]at O;exact iteT (O rfl H (Same.refl H))
 |some k=>
  rw[e]at N
  obtain⟨rfl,hk⟩:=Xt e
  obtain rfl:=Jc X
  obtain⟨a,r,e1,e2,L⟩:=d.get (gE (show k<c.length by lia))
  refine iteF ⟨_,rfl,t,_,_,_,rfl,rfl,T,at0,_,rfl,G,_,_,_,rfl,rfl,p,(show atI _ ((1:Nat):Int)=some _ from Yu rfl),Z,_,_,_,rfl,rfl,o,Yu (show c[k]?=some (.ref a)by rw[gE (show k<c.length by lia),e1]),N _ rfl a H (Same.refl H) ?_⟩
  have e3:rowK j k=r:=by unfold rowK;rw[jJ,e2];rfl
  rw[e3]
  exact L
theorem scTLow:FnScope ["problem","best","told","line","count"] (qB 0) (Qf Qtr):=Sc
theorem okTLow(F:Fn K mg "told_low" Qtr)(M:Mg mg)(a:qC 2 "is_number_of" ["thing","count"] (Ks K))(b:qC 1 "single_row" ["count","choice","number","least"] (Qfg K)):qC 4 "told_low" (qB 0) (Zm K "low"):=by
 refine Xd F scTLow (a:=fun f ae A x s H vs Q E R h=>?_)
 obtain⟨t,l,C,O,d,i,ws,told,X,u,rfl,J,o,y,p,z,B,ab,I,G⟩:=h
 refine⟨_,(Qe (Z4 4 scTLow.nd (qL (Qo Qm (pv 0) Qd)))
  (Qe (Xe (Xq (Xj (Xc a (R.mono Dc) (Qa (Qo Qm (pv 3) Qd) (Qa (pv 4) Qc))))) (Qh (Qp Xk)) Qr)
  (Qh (Qp (Xc b (R.mono Dc) (Qa (pv 4) (Qa (Qo Qm (pv 3) Qd) (Qa Qd (Qa Qd Qc))))))))),?_⟩
 refine Zd ?_;intros
 obtain⟨l0,c0,ad,ht,aa,j,v⟩:=id J.prob
 have ag:=j.length
 have ac:=J.rows.length
 have S:=J.n
 have T:=J.m
 have r:=J.k
 have lc:(d.map V.int).length=d.length:=jQ ..
 have N:u.length=2:=(Y5 (show some 2=some u.length from B)).symm
 obtain⟨D,g,rfl⟩:∃D g,u=[D,g]:=len2 N
 obtain⟨W,q,rfl⟩:∃W q,X=[W,q]:=len2 y
 have U:=p 1 q g rfl rfl
 have m1:=z g (List.Mem.tail _ (List.Mem.head _))
 have eq:Ja "low" O d i told [D,g]=(numT d.length g).map fun c=>Ya d.length c 1 0:=rfl
 rw[eq]at I G
 exists 4,t,8,ht,at1,c0,4,.inr v,?_
 rw[lc]
 exists 4,C,8,o,(show atI _ ((1:Nat):Int)=some _ from Yu rfl),4,q,g,d.length,rfl,U,4,?_
 cases e:numT d.length g with
 |none=>rw[e]at I;exact iteT (I rfl H (Same.refl H))
 |some k=>
  rw[e]at G
  obtain⟨rfl,hk⟩:=Xt e
  obtain rfl:=Jc U
  exact iteF ⟨_,rfl,_,rfl,C,_,_,_,rfl,rfl,o,(show atI _ ((1:Nat):Int)=some _ from Yu rfl),d.length,k,_,_,rfl,hk,Om,fun Z H' s' L=>G _ rfl Z H' s' L⟩
theorem scTHigh:FnScope ["problem","best","told","line","count"] (qB 0) (Qf Qkv):=Sc
theorem Qxf(F:Fn K mg "told_high" Qkv)(M:Mg mg)(a:qC 2 "is_number_of" ["thing","count"] (Ks K))(b:qC 1 "single_row" ["count","choice","number","least"] (Qfg K)):qC 4 "told_high" (qB 0) (Zm K "high"):=by
 refine Xd F scTHigh (a:=fun f ae A x s H vs Q E R h=>?_)
 obtain⟨t,l,C,O,d,i,ws,told,X,u,rfl,J,o,y,p,z,B,ab,I,G⟩:=h
 refine⟨_,(Qe (Z4 4 scTHigh.nd (qL (Qo Qm (pv 0) Qd)))
  (Qe (Xe (Xq (Xj (Xc a (R.mono Dc) (Qa (Qo Qm (pv 3) Qd) (Qa (pv 4) Qc))))) (Qh (Qp Xk)) Qr)
  (Qh (Qp (Xc b (R.mono Dc) (Qa (pv 4) (Qa (Qo Qm (pv 3) Qd) (Qa (Jr Zg Qd) (Qa (Jr Zg Qd) Qc))))))))),?_⟩
 refine Zd ?_;intros
 obtain⟨l0,c0,ad,ht,aa,j,v⟩:=id J.prob
 have ag:=j.length
 have ac:=J.rows.length
 have S:=J.n
 have T:=J.m
 have r:=J.k
 have lc:(d.map V.int).length=d.length:=jQ ..
 have N:u.length=2:=(Y5 (show some 2=some u.length from B)).symm
 obtain⟨D,g,rfl⟩:∃D g,u=[D,g]:=len2 N
 obtain⟨W,q,rfl⟩:∃W q,X=[W,q]:=len2 y
 have U:=p 1 q g rfl rfl
 have m1:=z g (List.Mem.tail _ (List.Mem.head _))
 have eq:Ja "high" O d i told [D,g]=(numT d.length g).map fun c=>Ya d.length c (-1) (-1):=rfl
 rw[eq]at I G
 exists 4,t,8,ht,at1,c0,4,.inr v,?_
 rw[lc]
 exists 4,C,8,o,(show atI _ ((1:Nat):Int)=some _ from Yu rfl),4,q,g,d.length,rfl,U,4,?_
 cases e:numT d.length g with
 |none=>rw[e]at I;exact iteT (I rfl H (Same.refl H))
 |some k=>
  rw[e]at G
  obtain⟨rfl,hk⟩:=Xt e
  obtain rfl:=Jc U
  exact iteF ⟨_,rfl,_,rfl,C,_,_,_,rfl,rfl,o,(show atI _ ((1:Nat):Int)=some _ from Yu rfl),_,rfl,_,rfl,d.length,k,_,_,rfl,hk,Om,fun Z H' s' L=>G _ rfl Z H' s' L⟩
theorem Qpt:FnScope (qB 0) (qB 0) (Qf Qbh):=Sc
theorem Qpu(F:Fn K mg "told_better" Qbh)(M:Mg mg)(c:qC 1 "is_whole" ["thing"] (Kr K))(a:qC 1 "better_row" ["problem","best"] (Qkr K)):qC 2 "told_better" (qB 0) (Zm K "better"):=by
 refine Xd F Qpt (fun _ _ _ _ _ _=>Qba (fun _ _ _ _=>rfl)) (fun vs H Q E h=>?_) (fun f Y A p s H vs Q E y h=>?_)
 .obtain⟨t,l,Z,o,e,d,ws,told,I,j,rfl,_⟩:=h
  rfl
 obtain⟨t,l,Z,o,e,d,ws,told,I,j,rfl,J,aa,q,L,U,r,S,G,D⟩:=h
 refine⟨_,(Qe (Xe (Xq (Xj (Xc c (y.mono Dc) (Qa (pv 1) Qc)))) (Qh (Qp Xk)) Qr)
  (Qh (Qp (Xc a (y.mono Dc) (Qa (pv 0) (Qa (pv 1) Qc)))))),?_⟩
 obtain⟨l0,c0,X,ht,R,g,N⟩:=id J.prob
 have ab:=g.length
 have T:=J.rows.length
 have z:=J.n
 have B:=J.m
 have i:=J.k
 have lc:(e.map V.int).length=e.length:=jQ ..
 have x:j.length=1:=(Y5 (show some 1=some j.length from r)).symm
 obtain⟨u,rfl⟩:∃u,j=[u]:=len1 x
 obtain⟨C,rfl⟩:∃C,I=[C]:=len1 q
 have eq:Ja "better" o e d told [u]=d.map (Ku e):=rfl
 rw[eq]at G D
 cases d with
 |none=>exists 4,_,.non,rfl,.non,4,iteT (G rfl H (Same.refl H))
 |some b=>exists 4,_,.int b,rfl,.int b,4,iteF ⟨_,rfl,_,rfl,t,o,e,b,rfl,J.prob,Om,fun O W s' v=>D _ rfl O W s' v⟩
abbrev Qfn:Stmt:=top 30
theorem scTShare:FnScope ["problem","best","told","line","by","row"] (qB 0) (Qf Qfn):=Sc
theorem Qtu(F:Fn K mg "told_share" Qfn)(M:Mg mg)(j:qC 3 "is_ahead" ["thing","told"] (Kt K))(g:qC 1 "is_whole" ["thing"] (Kr K))(d:qC 1 "share_row" ["row","by"] (Qpj K)):qC 4 "told_share" (qB 0) (Zm K "share"):=by
 refine Xd F scTShare (a:=fun f aq A ag s H vs Q E hr h=>?_)
 obtain⟨t,l,ln,rs,cs,L,ws,told,us,Y,rfl,J,R,af,C,W,ai,av,q,S⟩:=h
 refine⟨_,(Qe (Z4 4 scTShare.nd (Qo Qm (pv 3) Qd))
  (Qe (Xe (PW.pt (Yv (Xq (Xj (Xc j (hr.mono Dc) (Qa (Qo Qm (pv 3) Qd) (Qa (pv 2) Qc))))) (Yv (Xq (Xj (Xc g (hr.mono Dc) (Qa (pv 4) Qc)))) (Yh (Qq Qeg (pv 4) Qd (Qt _)))))) (Qh (Qp Xk)) Qr)
  (Qe (Z4 5 scTShare.nd (Qo ix_list (pv 2) (Qo Qm (pv 3) Qd)))
  (Qe (Xe (Xj (Qi (Qgt rfl) rfl M.any Qvn (Qa (Zv ["number","by"] [none,some 4] rfl (Qbr (Qo Qm (pv 5) Qd)) (fun _ _ _=>(Z3 0 (show(["number","by"]:List Str).Nodup by decide +kernel))) (fun _ _ _=>Yf) (fun _ _ _=>(Ze Qaw (Qx Yx (pv 0) (pv 1)) Qd (Qt _)))) Qc))) (Qh (Qp Xk)) Qr)
  (Qh (Qp (Xc d (hr.mono Dc) (Qa (pv 5) (Qa (pv 4) Qc))))))))),?_⟩
 refine Wj ?_;intros
 obtain⟨l0,c0,ao,ht,ap,U,al⟩:=id J.prob
 have ar:=U.length
 have ah:=J.rows.length
 have aj:=J.n
 have ak:=J.m
 have aa:=J.k
 have lc:(cs.map V.int).length=cs.length:=jQ ..
 have ae:Y.length=3:=(Y5 (show some 3=some Y.length from ai)).symm
 obtain⟨d0,B,y,rfl⟩:∃d0 B y,Y=[d0,B,y]:=len3 ae
 obtain⟨v0,v1,v2,rfl⟩:∃v0 v1 v2,us=[v0,v1,v2]:=len3 af
 have h1:=C 1 v1 B rfl rfl
 have m1:=W B (List.Mem.tail _ (List.Mem.head _))
 have h2:=C 2 v2 y rfl rfl
 have m2:=W y (List.Mem.tail _ (List.Mem.tail _ (List.Mem.head _)))
 have eq:Ja "share" rs cs L told [d0,B,y]=Qdv told B y:=rfl
 rw[eq]at q S
 exists 4,ln,8,R,(show atI _ ((2:Nat):Int)=some _ from Yu rfl),?_
 exists 4,ln,8,R,(show atI _ ((1:Nat):Int)=some _ from Yu rfl),4,v1,B,l,ws,rfl,h1,J.lst,J.ne,4,?_
 rw[ah]
 cases e:numT told.length B with
 |none=>
  have:Qdv told B y=none:=by
   unfold Qdv
   split
   .split
    .rw[e];rfl
    .rfl
   .rfl
  exact iteT (iteT (q this H (Same.refl H)))
 |some k=>
  obtain⟨rfl,hk⟩:=Xt e
  obtain rfl:=Jc h1
  refine iteF ⟨_,rfl,v2,y,rfl,h2,_,rfl,?_⟩
  cases y with
  |int b=>
   obtain rfl:=Jc h2
   obtain⟨b1,b2⟩:=m2.int_inv
   have eD:Qdv told (.int ((k:Nat):Int)) (.int b)=if 1<=b then(if divides (rowK told k) b=true then some (Vc (rowK told k) b)else none)else none:=by
    show(if 1<=b then _ else _)=_
    rw[e]
    rfl
   rw[eD]at q S
   refine iteF ⟨_,rfl,_,_,rfl,rfl,_,rfl,ite2 (fun c=>?_) (fun c=>?_)⟩
   .have c':b<1:=kZ c
    exact q (Y20 Om) H (Same.refl H)
   .have c':¬b<1:=fun z=>c (zX z)
    rw[Y22 Om]at q S
    obtain⟨a,ea,O,ac⟩:=J.row hk
    obtain⟨p,r1,X⟩:=id O
    exists 4,4,ln,8,R,(show atI _ ((1:Nat):Int)=some _ from Yu rfl),l,8,J.lst,Yu ea,?_
    exists 4,a,8,r1,at0,p,rfl,⟨_,X⟩,fun D hD=>?_
    generalize aw:rowK told k=r at q S r1 X ac O
    let ab:Nat->St->List V->Hp->Prop:=fun i T N I=>∃v:Option V,T=[v,some (.int b)]/\N=((r.1.map fun x=>!decide (x % b=0)).take i).map V.bl/\I D=some (.lst N)/\Same H I
    refine Ys (n:=r.1.length) ab ?_ (fun i T N I hi h=>?_) (fun i T N I hi h=>?_) (fun T N I h=>?_) ?_ ?_
    .exact⟨none,rfl,rfl,upd_same,Qb hD _⟩
    .obtain⟨v,rfl,rfl,G,u⟩:=h
     exists"z"
     exists G,by rw[jQ,yY];lia
    .obtain⟨v,rfl,rfl,G,u⟩:=h
     exists _,.int r.1[i],u.tup X,by rw[jY,gE hi];rfl
    .obtain⟨v,rfl,rfl,G,u⟩:=h
     exists _,u.tup X,by rw[jQ];exact jZ _
    .rintro i T N I x H2 hi ⟨v,rfl,rfl,G,u⟩ ⟨rfl,e1⟩
     obtain⟨z,ez,rfl⟩:=Xu (e1 _ (u.tup X))
     exists 4,4,7,Om,rfl,G,4,?_,upd_same,fun b' o e=>?_
     .rw[Zw (show(r.1.map fun x=>!decide (x % b=0))[i]?=some (!decide (z % b=0))by rw[jY,ez];rfl),kK]
      have:decide (V.int (z % b)=V.int 0)=decide (z % b=0):=decide_eq_decide.mpr ⟨V.int.inj,congrArg V.int⟩
      show _++[V.bl (!decide (V.int (z % b)=V.int 0))]=_
      rw[this]
      rfl
     .rw[Qn (Qk e hD)];exact u _ _ e
    .rintro T N I ⟨v,rfl,rfl,G,u⟩
     rw[yW (by rw[jQ];exact jZ _)]at G
     exists D,4,Qg G,4,?_
     have ed:((r.1.map fun x=>!decide (x % b=0)).any id)=!divides r b:=by
      unfold divides
      rw[List.any_map,List.all_eq_not_any_not,Bool.not_not]
      rfl
     rw[ed]
     by_cases Z:divides r b=true
     .rw[Z]
      rw[Y22 Z]at S
      exact iteF ⟨_,rfl,_,rfl,a,r,b,rfl,O.same u,Om,Om,big62 Om b2,fun t' H' s' ad=>S _ rfl t' H' (u.trans s') ad⟩
     .rw[Y20 Z]at q
      have:divides r b=false:=by cases h9:divides r b with | true=>exact Y21 h9 Z | false=>rfl
      rw[this]
      exact iteT (q rfl I u)
  |non=>exact iteT (iteT (q rfl H (Same.refl H)))
  |bl b=>exact iteT (iteT (q rfl H (Same.refl H)))
  |str b=>exact iteT (iteT (q rfl H (Same.refl H)))
  |tup b=>exact iteT (iteT (q rfl H (Same.refl H)))
  |lst b=>exact iteT (iteT (q rfl H (Same.refl H)))
abbrev Qkw:Stmt:=top 31
theorem scTShut:FnScope ["problem","best","told","line","count","holds","row"] (qB 0) (Qf Qkw):=Sc
theorem Qxg(F:Fn K mg "told_shut" Qkw)(M:Mg mg)(u:qC 3 "is_ahead" ["thing","told"] (Kt K))(j:qC 4 "are_holds" ["thing","count"] (Qds K))(v:qC 1 "most_of" ["row","holds"] (Qvr K))(q:qC 1 "shut_row" ["count","holds"] (Qhj K)):qC 5 "told_shut" (qB 0) (Zm K "shut"):=by
 refine Xd F scTShut (a:=fun f aC A am s H vs Q E hr h=>?_)
 obtain⟨t,l,ln,rs,g,I,ws,told,us,xs,rfl,J,R,ai,D,Y,ao,O,S,qs⟩:=h
 refine⟨_,(Qe (Z4 4 scTShut.nd (qL (Qo Qm (pv 0) Qd)))
  (Qe (Z4 5 scTShut.nd (Qo Qm (pv 3) Qd))
  (Qe (Xe (PW.pt (Yv (Xq (Xj (Xc u (hr.mono Dc) (Qa (Qo Qm (pv 3) Qd) (Qa (pv 2) Qc))))) (Yh (Xq (Xj (Xc j (hr.mono Dc) (Qa (pv 5) (Qa (pv 4) Qc)))))))) (Qh (Qp Xk)) Qr)
  (Qe (Z4 6 scTShut.nd (Qo ix_list (pv 2) (Qo Qm (pv 3) Qd)))
  (Qe (Xe (Qq Qnk (Xc v (hr.mono Dc) (Qa (pv 6) (Qa (pv 5) Qc))) (Qo Qm (pv 6) Qd) (Qt _)) (Qh (Qp Xk)) Qr)
  (Qh (Qp (Xc q (hr.mono Dc) (Qa (pv 4) (Qa (pv 5) Qc)))))))))),?_⟩
 refine Qsz ?_;intros
 obtain⟨l0,c0,ay,ht,aB,W,ad⟩:=id J.prob
 have aD:=W.length
 have an:=J.rows.length
 have au:=J.n
 have av:=J.m
 have ac:=J.k
 have lc:(g.map V.int).length=g.length:=jQ ..
 have af:xs.length=3:=(Y5 (show some 3=some xs.length from ao)).symm
 obtain⟨d0,G,y,rfl⟩:∃d0 G y,xs=[d0,G,y]:=len3 af
 obtain⟨v0,v1,C,rfl⟩:∃v0 v1 C,us=[v0,v1,C]:=len3 ai
 have h1:=D 1 v1 G rfl rfl
 have m1:=Y G (List.Mem.tail _ (List.Mem.head _))
 have N:=D 2 C y rfl rfl
 have m2:=Y y (List.Mem.tail _ (List.Mem.tail _ (List.Mem.head _)))
 have eq:Ja "shut" rs g I told [d0,G,y]=(numT told.length G).bind fun k=>(Zz g.length y).bind fun x=>if Wn (rowK told k) x<(rowK told k).2 then some (Jp g.length x)else none:=rfl
 rw[eq]at S qs
 exists 4,t,8,ht,at1,c0,4,.inr ad,?_
 rw[lc]
 exists 4,ln,8,R,(show atI _ ((2:Nat):Int)=some _ from Yu rfl),?_
 exists 4,ln,8,R,(show atI _ ((1:Nat):Int)=some _ from Yu rfl),4,v1,G,l,ws,rfl,h1,J.lst,J.ne,4,?_
 rw[an]
 cases e:numT told.length G with
 |none=>rw[e]at S;exact iteT (iteT (S rfl H (Same.refl H)))
 |some k=>
  rw[e]at S qs
  obtain⟨rfl,hk⟩:=Xt e
  obtain rfl:=Jc h1
  have i:lenT y<1000:=by have:=Qdw m2;lia
  have U:∀(o:Hp),Same H o->(Zz g.length y=none->Q .non o):=fun o d B=>S (by show(Zz g.length y).bind _=none;rw[B];rfl) o d
  cases B:Zz g.length y with
  |none=>
   cases y with
   |tup T=>exact iteF ⟨_,rfl,_,rfl,C,_,g.length,rfl,N,i,fun o d=>⟨_,rfl,iteT (U o d rfl)⟩⟩
   |lst T=>exact iteF ⟨_,rfl,_,rfl,C,_,g.length,rfl,N,i,fun o d=>⟨_,rfl,by rw[B];exact iteT (U o d B)⟩⟩
   |non=>exact iteF ⟨_,rfl,_,rfl,C,_,g.length,rfl,N,i,fun o d=>⟨_,rfl,iteT (U o d rfl)⟩⟩
   |bl b=>exact iteF ⟨_,rfl,_,rfl,C,_,g.length,rfl,N,i,fun o d=>⟨_,rfl,iteT (U o d rfl)⟩⟩
   |str b=>exact iteF ⟨_,rfl,_,rfl,C,_,g.length,rfl,N,i,fun o d=>⟨_,rfl,iteT (U o d rfl)⟩⟩
   |int b=>exact iteF ⟨_,rfl,_,rfl,C,_,g.length,rfl,N,i,fun o d=>⟨_,rfl,iteT (U o d rfl)⟩⟩
  |some x=>
   obtain⟨T,rfl⟩:=Qmr B
   obtain⟨ea,aI⟩:=holds_of B
   obtain⟨al,ap,rfl,aj,X,ag⟩:=N.lst_inv
   obtain⟨ar,O⟩:=Qdu (n:=g.length) X ag ea
   have aF:=(m2.lst_inv).1
   have aA:x.length=T.length:=(Jn ea).1
   have ah:∀r,(if Wn (rowK told k) x<(rowK told k).2 then some (Jp g.length x)else none)=some r->∀t' L,Same H L->RowAt K L t' r->Q (.ref t') L:=fun r er=>qs r (by show(Zz g.length (.lst T)).bind _=some r;rw[B];exact er)
   have ak:(if Wn (rowK told k) x<(rowK told k).2 then some (Jp g.length x)else none)=none->∀L,Same H L->Q .non L:=fun er=>S (by show(Zz g.length (.lst T)).bind _=none;rw[B];exact er)
   refine iteF ⟨_,rfl,_,rfl,_,_,g.length,rfl,N,by show T.length<1000;lia,fun o d=>⟨_,rfl,?_⟩⟩
   rw[B]
   refine iteF ?_
   obtain⟨a,aq,ab,az⟩:=J.row hk
   obtain⟨p,r1,r2⟩:=id ab
   have Z:=d.tup R
   exists 4,4,ln,8,Z,(show atI _ ((1:Nat):Int)=some _ from Yu rfl),l,8,d.seq J.lst,Yu aq,?_
   have aa:HoldsAt K o al x:=⟨ap,d.seq aj,PairsAre.same d ar⟩
   exists 4,4,a,al,rowK told k,x,rfl,ab.same d,aa,Om,fun p hp=>(O p hp).2.2,fun H2 s2=>⟨_,rfl,a,_,_,_,rfl,rfl,(d.trans s2).tup r1,at1,_,_,rfl,rfl,_,rfl,ite2 (fun c=>?_) (fun c=>?_)⟩
   .have c':(rowK told k).2<=Wn (rowK told k) x:=kZ c
    exact ak (Y20 Om) H2 (d.trans s2)
   .have c':¬(rowK told k).2<=Wn (rowK told k) x:=fun z=>c (zX z)
    exists 4,4,al,g.length,x,rfl,aa.same s2,O,Om,fun t' L s' ae=>ah _ (Y22 Om) t' L ((d.trans s2).trans s') ae
abbrev Wo:Stmt:=top 32
abbrev Qkx:Stmt:=top 33
theorem scTEither:FnScope ["problem","best","told","line","choice","one","other"] (qB 0) (Qf Wo):=Sc
theorem Qpv(F:Fn K mg "told_either" Wo)(M:Mg mg)(a:qC 3 "is_ahead" ["thing","told"] (Kt K))(d:qC 2 "is_number_of" ["thing","count"] (Ks K))(g:qC 1 "without" ["row","choice"] (Qco K))(o:qC 2 "either_row" ["one","other","choice"] (Qcp K)):qC 4 "told_either" (qB 0) (Zm K "either"):=by
 refine Xd F scTEither (a:=fun f ax A al s H vs Q E L h=>?_)
 obtain⟨t,l,U,rs,B,I,ws,told,us,xs,rfl,J,y,ag,q,R,an,aB,T,qs⟩:=h
 have ak:=Z6 6 L.un
 refine⟨_,(Qe (Z4 4 scTEither.nd (Qo Qm (pv 3) Qd))
  (Qe (Xe (PW.pt (Yv (Xq (Xj (Xc a (L.mono Dc) (Qa (Qo Qm (pv 3) Qd) (Qa (pv 2) Qc))))) (Yh (Xq (Xj (Xc a (L.mono Dc) (Qa (Qo Qm (pv 3) Qd) (Qa (pv 2) Qc)))))))) (Qh (Qp Xk)) Qr)
  (Qe (Xe (Xq (Xj (Xc d (L.mono Dc) (Qa (pv 4) (Qa (qL (Qo Qm (pv 0) Qd)) Qc))))) (Qh (Qp Xk)) Qr)
  (Qe (Z4 5 scTEither.nd (Qo ix_list (pv 2) (Qo Qm (pv 3) Qd)))
  (Qe (Z4 6 scTEither.nd (Qo ix_list (pv 2) (Qo Qm (pv 3) Qd)))
  (Qe (Xe (Qq (Qkb (n:=6) ak) (Xc g (L.mono Dc) (Qa (pv 5) (Qa (pv 4) Qc))) (Xc g (L.mono Dc) (Qa (pv 6) (Qa (pv 4) Qc))) (Qt _)) (Qh (Qp Xk)) Qr)
  (Qh (Qp (Xc o (L.mono Dc) (Qa (pv 5) (Qa (pv 6) (Qa (pv 4) Qc)))))))))))),?_⟩
 refine Qew ?_;intros
 obtain⟨l0,c0,av,ht,aw,W,ad⟩:=id J.prob
 have ay:=W.length
 have aa:=J.rows.length
 have ap:=J.n
 have aq:=J.m
 have ac:=J.k
 have lc:(B.map V.int).length=B.length:=jQ ..
 have af:xs.length=4:=(Y5 (show some 4=some xs.length from an)).symm
 obtain⟨d0,G,u,x,rfl⟩:∃d0 G u x,xs=[d0,G,u,x]:=len4 af
 obtain⟨v0,v1,v2,v3,rfl⟩:∃v0 v1 v2 v3,us=[v0,v1,v2,v3]:=len4 ag
 have h1:=q 1 v1 G rfl rfl
 have m1:=R G (List.Mem.tail _ (List.Mem.head _))
 have h2:=q 2 v2 u rfl rfl
 have m2:=R u (List.Mem.tail _ (List.Mem.tail _ (List.Mem.head _)))
 have h3:=q 3 v3 x rfl rfl
 have m3:=R x (List.Mem.tail _ (List.Mem.tail _ (List.Mem.tail _ (List.Mem.head _))))
 have eq:Ja "either" rs B I told [d0,G,u,x]=(numT told.length G).bind fun i=>(numT told.length u).bind fun j=>(numT B.length x).bind fun c=>if Xf (rowK told i).1 c=Xf (rowK told j).1 c then some (Js (rowK told i) (rowK told j) c)else none:=rfl
 rw[eq]at T qs
 exists 4,U,8,y,(show atI _ ((3:Nat):Int)=some _ from Yu rfl),?_
 exists 4,U,8,y,(show atI _ ((1:Nat):Int)=some _ from Yu rfl),4,v1,G,l,ws,rfl,h1,J.lst,J.ne,4,?_
 rw[aa]
 cases e:numT told.length G with
 |none=>rw[e]at T;exact iteT (iteT (T rfl H (Same.refl H)))
 |some i=>
  rw[e]at T qs
  obtain⟨rfl,hi⟩:=Xt e
  obtain rfl:=Jc h1
  refine iteF ⟨_,rfl,U,_,_,_,rfl,rfl,y,(show atI _ ((2:Nat):Int)=some _ from Yu rfl),_,rfl,v2,u,l,ws,rfl,h2,J.lst,J.ne,_,rfl,?_⟩
  rw[aa]
  cases e2:numT told.length u with
  |none=>exact iteT (T (by show(numT told.length u).bind _=none;rw[e2];rfl) H (Same.refl H))
  |some j=>
   have ah:=fun r N=>qs r (show(numT told.length u).bind _=some r by rw[e2];exact N)
   have Y:=fun N=>T (show(numT told.length u).bind _=none by rw[e2];exact N)
   obtain⟨rfl,hj⟩:=Xt e2
   obtain rfl:=Jc h2
   refine iteF ⟨_,rfl,_,rfl,t,_,_,_,rfl,rfl,ht,at1,c0,_,rfl,.inr ad,v3,x,(B.map V.int).length,rfl,h3,_,rfl,?_⟩
   rw[lc]
   cases e3:numT B.length x with
   |none=>exact iteT (Y (by show(numT B.length x).bind _=none;rw[e3];rfl) H (Same.refl H))
   |some c=>
    have S:=fun r N=>ah r (show(numT B.length x).bind _=some r by rw[e3];exact N)
    have O:=fun N=>Y (show(numT B.length x).bind _=none by rw[e3];exact N)
    obtain⟨rfl,hc⟩:=Xt e3
    obtain rfl:=Jc h3
    obtain⟨a1,ao,p,X⟩:=J.row hi
    obtain⟨a2,am,v,Z⟩:=J.row hj
    refine iteF ⟨_,rfl,_,rfl,U,_,_,_,rfl,rfl,y,(show atI _ ((1:Nat):Int)=some _ from Yu rfl),l,_,_,_,rfl,rfl,J.lst,Yu ao,?_⟩
    exists 4,4,U,8,y,(show atI _ ((2:Nat):Int)=some _ from Yu rfl),l,8,J.lst,Yu am,?_
    generalize rowK told i=one at S O p X
    generalize rowK told j=other at S O v Z
    exists 4,4,a1,one,c,rfl,p,Om,Om,fun p1 H1 s1 ai=>?_
    exists 4,4,a2,other,c,rfl,v.same s1,Om,Om,fun p2 H2 s2 aj=>?_
    have C:=s1.trans s2
    exists p1,p2,7,Qwr (s2.tup ai),Qwr aj,Qgw _ _,fun b hb=>?_
    have ab:b=true↔Xf one.1 c=Xf other.1 c:=by
     rw[hb]
     constructor
     .intro z
      have z1:(Xf one.1 c).map L2.D.int=(Xf other.1 c).map L2.D.int:=by injection z
      exact(List.map_inj_right (fun _ _ h=>by cases h;rfl)).mp z1
     .intro z;rw[z]
    cases b with
    |true=>exists 4,iteF ⟨_,rfl,_,rfl,_,rfl,a1,a2,one,other,c,rfl,p.same C,v.same C,Om,Om,fun t' H' s' ae=>S _ (Y22 (ab.mp rfl)) t' H' (C.trans s') ae⟩
    |false=>exists 4,iteT (O (Y20 fun z=>nomatch ab.mpr z) H2 C)
theorem scTLike:FnScope ["problem","best","told","line","turn"] (qB 0) (Qf Qkx):=Sc
theorem Qxh(F:Fn K mg "told_like" Qkx)(M:Mg mg)(o:qC 3 "is_turn" ["thing","count"] (Qkp K))(a:qC 2 "turn_keeps" ["problem","turn"] (spKT K))(g:qC 1 "like_row" ["turn"] (Qhk K)):qC 4 "told_like" (qB 0) (Zm K "like"):=by
 refine Xd F scTLike (a:=fun f ar A Z s H vs Q E X h=>?_)
 obtain⟨t,l,ln,R,d,x,ws,told,us,W,rfl,J,ag,aa,O,ac,ae,ao,U,qs⟩:=h
 refine⟨_,(Qe (Z4 4 scTLike.nd (Qo Qm (pv 3) Qd))
  (Qe (Xe (PW.pt (Yv (Xq (Xj (Xc o (X.mono Dc) (Qa (pv 4) (Qa (qL (Qo Qm (pv 0) Qd)) Qc))))) (Yh (Xq (Xj (Xc a (X.mono Dc) (Qa (pv 0) (Qa (pv 4) Qc)))))))) (Qh (Qp Xk)) Qr)
  (Qh (Qp (Xc g (X.mono Dc) (Qa (pv 4) Qc)))))),?_⟩
 refine Zd ?_;intros
 obtain⟨l0,B,aq,y,an,D,j⟩:=id J.prob
 have ax:=D.length
 have ap:=J.rows.length
 have aj:=J.n
 have ak:=J.m
 have T:=J.k
 have lc:(d.map V.int).length=d.length:=jQ ..
 have ai:W.length=2:=(Y5 (show some 2=some W.length from ae)).symm
 obtain⟨d0,p,rfl⟩:∃d0 p,W=[d0,p]:=len2 ai
 obtain⟨v0,q,rfl⟩:∃v0 q,us=[v0,q]:=len2 aa
 have v:=O 1 q p rfl rfl
 have m1:=ac p (List.Mem.tail _ (List.Mem.head _))
 have eq:Ja "like" R d x told [d0,p]=(Qad d.length p).bind fun t=>@ite _ (Qct R d t d.length) (Classical.propDecidable _) (some (Qcn t)) none:=rfl
 rw[eq]at U qs
 exists 4,ln,8,ag,(show atI _ ((1:Nat):Int)=some _ from Yu rfl),?_
 have c:lenT p<64:=by have:=Qdw m1;lia
 have C:∀(e:Hp),Same H e->(Qad d.length p=none->Q .non e):=fun e i r=>U (by rw[r];rfl) e i
 cases r:Qad d.length p with
 |none=>
  cases p with
  |lst Y=>exists 4,4,t,8,y,at1,B,4,.inr j,q,_,(d.map V.int).length,rfl,v,c,by rw[lc];lia,fun e i=>⟨_,rfl,by rw[lc,r];exact iteT (iteT (C e i r))⟩
  |tup Y=>exists 4,4,t,8,y,at1,B,4,.inr j,q,_,(d.map V.int).length,rfl,v,c,by rw[lc];lia,fun e i=>⟨_,rfl,iteT (iteT (C e i rfl))⟩
  |non=>exists 4,4,t,8,y,at1,B,4,.inr j,q,_,(d.map V.int).length,rfl,v,c,by rw[lc];lia,fun e i=>⟨_,rfl,iteT (iteT (C e i rfl))⟩
  |bl b=>exists 4,4,t,8,y,at1,B,4,.inr j,q,_,(d.map V.int).length,rfl,v,c,by rw[lc];lia,fun e i=>⟨_,rfl,iteT (iteT (C e i rfl))⟩
  |str b=>exists 4,4,t,8,y,at1,B,4,.inr j,q,_,(d.map V.int).length,rfl,v,c,by rw[lc];lia,fun e i=>⟨_,rfl,iteT (iteT (C e i rfl))⟩
  |int b=>exists 4,4,t,8,y,at1,B,4,.inr j,q,_,(d.map V.int).length,rfl,v,c,by rw[lc];lia,fun e i=>⟨_,rfl,iteT (iteT (C e i rfl))⟩
 |some tn=>
  obtain⟨Y,rfl⟩:=Qhn r
  obtain⟨ea,ah,u⟩:=Qhm r
  obtain⟨S,aw,rfl,ab,G,ad⟩:=v.lst_inv
  obtain⟨ev,N⟩:=Qhi (n:=d.length) G ad ea
  have av:=(m1.lst_inv).1
  have hT:IsTurn d.length tn:=⟨Ki N ah u⟩
  rw[r]at U qs
  exists 4,4,t,8,y,at1,B,4,.inr j,_,_,(d.map V.int).length,rfl,v,by show Y.length<64;lia,by rw[lc];lia,fun e i=>⟨_,rfl,?_⟩
  rw[lc,r]
  have L:SqL K e S ((tI tn).map V.int):=by show SqL K e S ((tn.map fun(k:Nat)=>(k:Int)).map V.int);rw[<-ev];exact i.seq ab
  refine iteF ⟨_,rfl,_,rfl,t,S,R,d,d.length,tn,rfl,J.prob.same i,L,hT,Om,J.rl,rfl,J.m,fun b H2 s2 hb=>⟨_,rfl,?_⟩⟩
  have I:=i.trans s2
  cases b with
  |true=>exact iteF ⟨_,rfl,S,tn,rfl,s2.seq L,Om,fun k hk=>by rw[u];exact N k hk,fun t' H' s' af=>qs _ (show(some tn).bind _=some _ from Y22 (hb.mp rfl)) t' H' (I.trans s') af⟩
  |false=>exact iteT (U (show(some tn).bind _=none from Y20 fun z=>nomatch hb.mpr z) H2 I)
abbrev Qtv:Stmt:=top 29
theorem parts_nil:Kb K H [] []:=⟨rfl,fun i v p e=>by simp at e⟩
theorem Qms{ps:List Part}{T t:Addr}{p:Part}(h:Kb K H vs ps)(f:SqT K H T [.ref t,.int p.2])(e:RowAt K H t p.1):Kb K H (vs++[.ref T]) (ps++[p]):=by
 exists by rw[yQ,yQ,h.1];rfl,fun i v q a b=>?_
 by_cases d:i<vs.length
 .rw[jKe d]at a
  rw[jKe (by rw[<-h.1];exact d)]at b
  exact h.2 i v q a b
 .have c:i=vs.length:=by
   have:=(jW.mp a).1
   rw[yQ]at this
   simp at this
   lia
  subst c
  rw[jKc (jZ _)]at a
  rw[jKc (by rw[h.1];exact jZ _),h.1]at b
  simp at a b
  subst a b
  exists T,t,rfl,f,e
theorem Qho{ps:List Part}(f:∀a xs,SqT K H a xs->SqT K H' a xs)(h:Kb K H vs ps):Kb K H' vs ps :=
 ⟨h.1,fun i v p d c=>let ⟨T,t,a,b,q,c1,c2⟩:=h.2 i v p d c;⟨T,t,a,f _ _ b,q,f _ _ c1,f _ _ c2⟩⟩
theorem Qpw{xs:List Dt}(r:vs.length=xs.length)(h:∀(i:Nat) v x,vs[i]?=some v->xs[i]?=some x->HasT K H v x)(m:∀x∈xs,Sm x)(e:allT (Jz n) xs=some qs)(d:vs[i]?=some v) :
  ∃T p,v=.ref T/\qs[i]?=some p/\SqT K H T [.int ((p.1:Nat):Int),.int p.2]/\p.1<n/\0<=p.2/\p.2<2 ^ 62:=by
 have s:i<vs.length:=(jW.mp d).1
 obtain⟨x,c⟩:∃x,xs[i]?=some x:=⟨_,gE Om⟩
 obtain⟨p,o,j⟩:=(Jn e).2 i x c
 obtain⟨rfl,q,g⟩:=Qae j
 obtain⟨T,a,b,rfl,l,f,k⟩:=(h i v _ d c).pair_inv
 cases f
 cases k
 have:=(m _ (kX c)).tup_inv (.int p.2) (by simp)
 exists T,p,rfl,o,l,q,g,this.int_inv.2
theorem Qtw{xs:List Dt}(e:allT (Jz n) xs=some qs)(g:∀x∈xs,Sm x):∀p∈qs,p.1<n/\0<=p.2/\p.2<2 ^ 62:=by
 intro p k
 obtain⟨l,h⟩:=Jn e
 obtain⟨i,d,rfl⟩:=jXb.mp k
 obtain⟨x,b⟩:∃x,xs[i]?=some x:=⟨_,gE Om⟩
 obtain⟨p,a,f⟩:=h i x b
 rw[gE d]at a
 cases a
 obtain⟨rfl,j,c⟩:=Qae f
 exists j,c,((g _ (kX b)).tup_inv (.int _) (by simp)).int_inv.2
theorem scTSum:FnScope ["problem","best","told","line","parts"] (qB 0) (Qf Qtv):=Sc
theorem okTSum(F:Fn K mg "told_sum" Qtv)(M:Mg mg)(C:qC 4 "is_part" ["thing","told"] (Qkn K))(B:qC 1 "sum_row" ["count","parts"] (spSum K)):qC 5 "told_sum" (qB 0) (Zm K "sum"):=by
 refine Xd F scTSum (a:=fun f aO A aC s H vs Q E hr h=>?_)
 obtain⟨t,l,ln,rs,cs,Z,ws,told,L,g,rfl,J,aF,av,ae,ay,aE,ai,N,qs⟩:=h
 refine⟨_,(Qe (Z4 4 scTSum.nd (Qo Qm (pv 3) Qd))
  (Qe (Xe (PW.pt (Yv (Xq (Xj (Qi Xm rfl M.isinstance Qw (Qa (pv 4) (Qa (Jl M.list_ Yj) Qc))))) (Yh (Qq Xz (qL (pv 4)) Qd (Qt _))))) (Qh (Qp Xk)) Qr)
  (Qe (Xe (Xq (Xj (Qi (Qbz rfl) rfl M.all Qod (Qa (Zv ["part","told"] [none,some 2] rfl (Xl (pv 4)) (fun _ _ _=>(Z3 0 (show(["part","told"]:List Str).Nodup by decide +kernel))) (fun _ _ _=>Yf) (fun _ _ _=>(Xc C (hr.mono Dc) (Qa (pv 0) (Qa (pv 1) Qc))))) Qc)))) (Qh (Qp Xk)) Qr)
  (Qh (Qp (Xc B (hr.mono Dc) (Qa (qL (Qo Qm (pv 0) Qd)) (Qa (Zv ["place","many","told"] [none,none,some 2] rfl (Xl (pv 4)) (fun _ _ _=>(Yg (K:=K) (i:=0) (j:=1) rfl rfl (show(["place","many","told"]:List Str).Nodup by decide +kernel) rfl rfl rfl rfl)) (fun _ _ _=>Yf) (fun _ _ _=>(Xh (Qa (Qo (Qeo (K:=K) rfl) (pv 2) (pv 0)) (Qa (pv 1) Qc))))) Qc)))))))),?_⟩
 refine Zl ?_;intros
 obtain⟨l0,c0,aM,ht,aN,ab,ao⟩:=id J.prob
 have aP:=ab.length
 have aD:=J.rows.length
 have aG:=J.n
 have aI:=J.m
 have am:=J.k
 have lc:(cs.map V.int).length=cs.length:=jQ ..
 have au:g.length=2:=(Y5 (show some 2=some g.length from aE)).symm
 obtain⟨d0,d1,rfl⟩:∃d0 d1,g=[d0,d1]:=len2 au
 obtain⟨v0,v1,rfl⟩:∃v0 v1,L=[v0,v1]:=len2 av
 have h1:=ae 1 v1 d1 rfl rfl
 have m1:=ay d1 (List.Mem.tail _ (List.Mem.head _))
 have eq:Ja "sum" rs cs Z told [d0,d1]=sumD cs.length told d1:=rfl
 rw[eq]at N qs
 exists"z"
 exists 4,ln,8,aF,(show atI _ ((1:Nat):Int)=some _ from Yu rfl),?_
 cases d1 with
 |lst g=>
  obtain⟨a,L,rfl,U,aa,af⟩:=h1.lst_inv
  obtain⟨aJ,ak⟩:=m1.lst_inv
  exists 4,_,"list",4,.list,h1.isi _,4,iteF ⟨_,rfl,a,L,rfl,.inl U,rfl,_,rfl,?_⟩
  cases g with
  |nil=>
   have:L=[]:=jJe aa
   subst this
   exact iteT (N rfl H (Same.refl H))
  |cons d r=>
   have eS:sumD cs.length told (.lst (d::r))=(allT (Jz told.length) (d::r)).map fun qs=>Yl cs.length (partsOf told qs):=rfl
   rw[eS]at N qs
   generalize ap:d::r=g at *
   have aH:0<g.length:=by rw[<-ap];simp
   refine ite2 (fun c=>Y21 (V.int.inj (kZ c)) Om) (fun _=>?_)
   exists 4,a,rfl,⟨_,U⟩,fun D hD=>?_
   let an:Nat->St->List V->Hp->Prop:=fun i I y W=>∃u:Option V,I=[u,some (.ref l)]/\y=((g.take i).map fun d=>(Jz ws.length d).isSome).map V.bl/\W D=some (.lst y)/\Same H W
   refine Ys (n:=g.length) an ?_ (fun i I y W hi h=>?_) (fun i I y W hi h=>?_) (fun I y W h=>?_) ?_ ?_
   .exact⟨none,rfl,rfl,upd_same,Qb hD _⟩
   .obtain⟨u,rfl,rfl,Y,q⟩:=h
    exists Y,by rw[jQ,jQ,yY];lia
   .obtain⟨u,rfl,rfl,Y,q⟩:=h
    exists L,L[i]'Om,q.seq U,gE Om
   .obtain⟨u,rfl,rfl,Y,q⟩:=h
    exists L,q.seq U,Om
   .rintro i I y W x R hi ⟨u,rfl,rfl,Y,q⟩ ⟨rfl,e1⟩
    obtain⟨dd,ed⟩:∃d,g[i]?=some d:=⟨_,gE hi⟩
    have hx:=(af i _ _ (e1 _ (q.seq U)) ed).same q
    exists 4,4,_,dd,l,ws,rfl,hx,q.seq J.lst,J.ne,Y,4,?_,upd_same,fun b o e=>?_
    .rw[Zw ed,kK,kK];rfl
    .rw[Qn (Qk e hD)];exact q _ _ e
   rintro I y W ⟨u,rfl,rfl,Y,q⟩
   rw[wV]at Y
   exists D,4,Qg Y,4,?_
   have ah:(g.map fun d=>(Jz ws.length d).isSome).all id=(allT (Jz told.length) g).isSome:=by rw[aD,Ka,List.all_map];rfl
   rw[ah]
   cases ea:allT (Jz told.length) g with
   |none=>rw[ea]at N;exact iteT (N rfl W q)
   |some qq=>
    rw[ea]at qs
    obtain⟨el,eg⟩:=Jn ea
    have ai:=Qtw ea ak
    refine iteF ⟨_,rfl,t,_,_,_,rfl,rfl,q.tup ht,at1,c0,_,rfl,.inr (q.tup ao),?_⟩
    exists 4,a,rfl,⟨_,q.seq U⟩,fun D2 al=>?_
    have aT:(partsOf told qq).length=qq.length:=jQ ..
    let aw:Nat->St->List V->Hp->Prop:=fun i I y R=>∃u v:Option V,I=[u,v,some (.ref l)]/\Kb K R y ((partsOf told qq).take i)/\R D2=some (.lst y)/\Same W R
    refine Ys (n:=g.length) aw ?_ (fun i I y R hi h=>?_) (fun i I y R hi h=>?_) (fun I y R h=>?_) ?_ ?_
    .exact⟨none,none,rfl,parts_nil,upd_same,Qb al _⟩
    .obtain⟨u,v,rfl,X,G,S⟩:=h
     have:=X.1
     rw[yY]at this
     exists G,Om
    .obtain⟨u,v,rfl,X,G,S⟩:=h
     exists L,L[i]'Om,(q.trans S).seq U,gE Om
    .obtain⟨u,v,rfl,X,G,S⟩:=h
     exists L,(q.trans S).seq U,Om
    .rintro i I y R x H3 hi ⟨u,v,rfl,X,G,S⟩ ⟨rfl,e1⟩
     have O:=q.trans S
     obtain⟨T,p,rfl,ep,hT,ax,aQ,aR⟩:=Qpw aa af ak ea (e1 _ (O.seq U))
     obtain⟨ar,aq,aA,ac⟩:=J.row ax
     exists T,4,O.tup hT,rfl,_,4,7,?_
     exists 4,4,l,8,O.seq J.lst,Yu aq,4,Z1 2,fun T2 aB=>?_
     have s3:=Qb aB (.tup [.ref ar,.int p.2])
     have aj:=s3 _ _ G
     exists aj,_,4,?_,upd_same,fun b o e=>?_
     .rw[Zw (show(partsOf told qq)[i]?=some (rowK told p.1,p.2)by unfold partsOf;rw[jY,ep];rfl)]
      refine Qho (fun a g z=>Yk aj z) (Qms (Qho (fun a g z=>s3.tup z) X) (Ql upd_same) (aA.same (O.trans s3)))
     .rw[Qn (Qk e al)];exact s3 _ _ (S _ _ e)
    .rintro I y R ⟨u,v,rfl,X,G,S⟩
     rw[yW Om]at X
     exists D2,y,partsOf told qq,(cs.map V.int).length,rfl,Qg G,X,by rw[lc];lia,fun p ag=>?_,fun t' H' s' ad=>?_
     .unfold partsOf at ag
      obtain⟨pq,az,rfl⟩:=zW.mp ag
      obtain⟨k1,k2,k3⟩:=ai pq az
      rw[lc]
      obtain⟨_,_,_,ac⟩:=J.row k1
      exists ac,by show -(2 ^ 64)<pq.2;lia,by show pq.2<2 ^ 64;lia
     .rw[lc]at ad
      exact qs _ rfl t' H' ((q.trans S).trans s') ad
 |int i=>exists 4,_,"list",4,.list,h1.isi _,4,iteT (iteT (N rfl H (Same.refl H)))
 |non=>exists 4,_,"list",4,.list,h1.isi _,4,iteT (iteT (N rfl H (Same.refl H)))
 |bl b=>exists 4,_,"list",4,.list,h1.isi _,4,iteT (iteT (N rfl H (Same.refl H)))
 |str s=>exists 4,_,"list",4,.list,h1.isi _,4,iteT (iteT (N rfl H (Same.refl H)))
 |tup g=>exists 4,_,"list",4,.list,h1.isi _,4,iteT (iteT (N rfl H (Same.refl H)))
abbrev Qbi:Stmt:=top 36
def rowT(rs:List Rw)(cs:List Int)(best:Option Int)(told:List Rw):Dt->Option Rw
 |.tup (.str w::xs)=>if lenW w=some (xs.length+1)then Ja w rs cs best told (.str w::xs)else none
 |_=>none
inductive Qhp(K:Fg)(vs:List V)(H:Hp)(Q:VK)(E:XK):Prop|mk(t l:Addr)(v:V)(rs:List Rw)(cs:List Int)(best:Option Int)(ws:List V)(told:List Rw)(d:Dt)(_:vs=[.ref t,Vk best,.ref l,v])(_:Jx K H t l rs cs ws told)(_:HasT K H v d)(_:Sm d)(_:okD cs.length d)(_:(rowT rs cs best told d=none->∀H',Same H H'->Q .non H'))(_:∀r,rowT rs cs best told d=some r->∀t' H',Same H H'->RowAt K H' t' r->Q (.ref t') H'):Qhp K vs H Q E
structure JTabs(P:Program)(w:World)(K:Fg)(mg:Z9)(base:Heap)(aT aL:Addr)(fT fL:Z9):Prop where
 tt:Tab w K mg "TELLERS" aT fT
 lt:Tab w K mg "LENGTHS" aL fL
 kt:∀s,(fT s).isSome=(lenW s).isSome
 kl:∀s n,lenW s=some n->∃tk,fL s=some (.int ((n:Nat):Int) tk)
 ok:TabOk P w K mg base 5 fT (qB 0) (Zm K)
theorem scRowTold:FnScope ["problem","best","told","line","word"] (qB 0) (Qf Qbi):=Sc
theorem Qpx(F:Fn K mg "row_told" Qbi)(M:Mg mg)(k:JTabs P w K mg base aT aL fT fL):qC 6 "row_told" (qB 0) (Qhp K):=by
 refine Xd F scRowTold (a:=fun f ab A N s H vs Q E hr h=>?_)
 obtain⟨t,l,v,C,G,e,W,told,d,rfl,J,hv,O,B,a,D⟩:=h
 refine⟨_,(Qe (Xe (PW.pt (Yv (Xq (Xj (Qi Xm rfl M.isinstance Qw (Qa (pv 3) (Qa (Jl M.tuple_ Xo) Qc))))) (Yv (Qq Xz (qL (pv 3)) Qd (Qt _)) (Yh (Xq (Xj (Qi Xm rfl M.isinstance Qw (Qa (Qo Qm (pv 3) Qd) (Qa (Jl M.str_ bt_str) Qc))))))))) (Qh (Qp Xk)) Qr)
  (Qe (Z4 4 scRowTold.nd (Qo Qm (pv 3) Qd))
  (Qe (Xe (PW.pt (Yv (Qve (Qow k.tt (pv 4)) rfl) (Yh (Qq Qaw (qL (pv 3)) (Qo (Qvq k.lt) (Qij (v:=.ref aL) rfl k.lt.bound rfl) (pv 4)) (Qt _))))) (Qh (Qp Xk)) Qr)
  (Qh (Qp (Qmf k.tt k.ok (hr.mono Dc) (pv 4) (fun _ _=>rfl) (Qa (pv 0) (Qa (pv 1) (Qa (pv 2) (Qa (pv 3) Qc)))))))))),?_⟩
 refine Zl ?_;intros
 cases d with
 |tup xs=>
  obtain⟨y,S,rfl,g,j,o⟩:=hv.tup_inv
  exists 4,_,"tuple",4,.tuple,hv.isi _,4,iteF ⟨_,rfl,y,S,rfl,.inr g,rfl,_,rfl,?_⟩
  cases xs with
  |nil=>
   have:S=[]:=jJe j
   subst this
   exact iteT (iteT (a rfl H (Same.refl H)))
  |cons x r=>
   cases S with
   |nil=>simp at j
   |cons v0 ur=>
    have m:(v0::ur).length=r.length+1:=j
    have U:=o 0 v0 x rfl rfl
    refine ite2 (fun c=>Y21 (V.int.inj (kZ c)) Om) (fun _=>?_)
    exists 4,y,8,g,(show atI _ ((0:Nat):Int)=some _ from Yu rfl),_,"str",4,.str,U.isi _,4,?_
    cases x with
    |str wd=>
     cases U
     have Y:rowT C G e told (.tup (.str wd::r))=if lenW wd=some (r.length+1)then Ja wd C G e told (.str wd::r)else none:=rfl
     rw[Y]at a D
     refine iteF ⟨_,rfl,y,_,_,_,rfl,rfl,g,(show atI _ ((0:Nat):Int)=some _ from Yu rfl),?_⟩
     exists 4,wd,rfl,4,?_
     rw[k.kt wd]
     cases u:lenW wd with
     |none=>
      rw[u]at a
      exact iteT (iteT (a (Y20 fun z=>nomatch z) H (Same.refl H)))
     |some n=>
      obtain⟨tk,R⟩:=k.kl wd n u
      refine iteF ⟨_,rfl,y,_,rfl,.inr g,_,rfl,wd,_,.int ((n:Nat):Int),rfl,rfl,R,⟨tk,rfl⟩,rfl,_,rfl,?_⟩
      by_cases L:n=r.length+1
      .subst L
       rw[u]at a D
       rw[Y22 rfl]at a D
       have I:(!decide (V.int (((V.str wd::ur).length:Nat):Int)=V.int ((r.length+1:Nat):Int)))=false:=by rw[m,zX rfl];rfl
       rw[I]
       have p:(fT wd).isSome=true:=by rw[k.kt wd,u];rfl
       obtain⟨fv,q⟩:=kQe.mp p
       obtain⟨T,fd,X,_⟩:=k.ok wd fv q
       subst X
       exact iteF ⟨_,rfl,wd,_,.ref T,rfl,rfl,q,rfl,wd,T,rfl,q,_,rfl,_,rfl,_,rfl,_,rfl,t,l,y,C,G,e,W,told,_,_,rfl,J,g,j,o,O.tup_inv,u,B wd r rfl u,a,D⟩
      .have I:(!decide (V.int (((V.str wd::ur).length:Nat):Int)=V.int ((n:Nat):Int)))=true:=by rw[m,zJ (fun z=>L (by have:=V.int.inj z;lia))];rfl
       rw[I]
       exact iteT (a (Y20 fun z=>L (Y5 (u.symm.trans z))) H (Same.refl H))
    |int i=>exact iteT (a rfl H (Same.refl H))
    |non=>exact iteT (a rfl H (Same.refl H))
    |bl b=>exact iteT (a rfl H (Same.refl H))
    |tup xs=>exact iteT (a rfl H (Same.refl H))
    |lst xs=>exact iteT (a rfl H (Same.refl H))
 |int i=>exists 4,_,"tuple",4,.tuple,hv.isi _,4,iteT (iteT (a rfl H (Same.refl H)))
 |non=>exists 4,_,"tuple",4,.tuple,hv.isi _,4,iteT (iteT (a rfl H (Same.refl H)))
 |bl b=>exists 4,_,"tuple",4,.tuple,hv.isi _,4,iteT (iteT (a rfl H (Same.refl H)))
 |str s=>exists 4,_,"tuple",4,.tuple,hv.isi _,4,iteT (iteT (a rfl H (Same.refl H)))
 |lst xs=>exists 4,_,"tuple",4,.tuple,hv.isi _,4,iteT (iteT (a rfl H (Same.refl H)))
abbrev Wp:Stmt:=top 37
theorem Qhq(h:c<ns.length):(Xf ns c).length=ns.length:=by
 unfold Xf
 rw[yQ,yQ,yY,jJc]
 show min c ns.length+1+(ns.length-(c+1))=ns.length
 lia
theorem Qat(n:Nat)(b:List (Int×Int)):(Yb n b).length=n:=by
 unfold Yb
 suffices h:∀a:List Int,(b.foldl (fun a p=>a.set p.1.toNat (1-2*p.2)) a).length=a.length by rw[h,wQ]
 induction b with
 |nil=>intro a;rfl
 |cons p t ih=>intro a;rw[kXd,ih,wW]
theorem Wq{k:Nat}{rs:List Rw}(h:∀r∈rs,r.1.length=n)(a:k<rs.length):(rowK rs k).1.length=n:=by
 unfold rowK
 rw[jJ,gE a]
 exact h _ (jXd a)
theorem Qtx{α:Type}{f:Dt->Option α}{ds:List Dt}{xs:List α}(h:allT f ds=some xs):∀x∈xs,∃d∈ds,f d=some x:=by
 intro x e
 obtain⟨k,g⟩:=Jn h
 obtain⟨i,j,rfl⟩:=jXb.mp e
 have a:i<ds.length:=Om
 obtain⟨p,b,c⟩:=g i ds[i] (gE a)
 rw[gE j]at b
 cases b
 exists _,jXd a,c
theorem Qmt{w:Str}{rs:List Rw}{told:List Rw}{xs:List Dt}{r:Rw}(s:∀r∈rs,r.1.length=cs.length)(d:∀r∈told,r.1.length=cs.length)(h:Ja w rs cs best told xs=some r):r.1.length=cs.length:=by
 unfold Ja at h
 split at h
 .unfold Qvs at h
  split at h
  .obtain⟨k,e,rfl⟩:=zQ.mp h
   exact Wq s (Xt e).2
  .cases h
 split at h
 .unfold tLow at h
  split at h
  .obtain⟨k,e,rfl⟩:=zQ.mp h
   show((qg _ _).set _ _).length=_
   rw[wW,wQ]
  .cases h
 split at h
 .unfold tHigh at h
  split at h
  .obtain⟨k,e,rfl⟩:=zQ.mp h
   show((qg _ _).set _ _).length=_
   rw[wW,wQ]
  .cases h
 split at h
 .unfold Qpr at h
  split at h
  .obtain⟨k,e,rfl⟩:=zQ.mp h
   exact jQ ..
  .cases h
 split at h
 .unfold tSum sumD at h
  split at h
  .split at h
   .obtain⟨y,e,rfl⟩:=zQ.mp h
    refine Qaf _ _ fun p g=>?_
    unfold partsOf at g
    obtain⟨q,n,rfl⟩:=zW.mp g
    obtain⟨x,_,o⟩:=Qtx e q n
    exact Wq d (Qae o).2.1
   .cases h
  .cases h
 split at h
 .unfold Qvt Qdv at h
  split at h
  .split at h
   .split at h
    .obtain⟨k,e,a⟩:=jQd.mp h
     split at a
     .cases a
      show(List.map _ _).length=_
      rw[jQ]
      exact Wq d (Xt e).2
     .cases a
    .cases h
   .cases h
  .cases h
 split at h
 .unfold tShut at h
  split at h
  .obtain⟨k,e,a⟩:=jQd.mp h
   obtain⟨v,l,b⟩:=jQd.mp a
   split at b
   .cases b;exact Qat _ _
   .cases b
  .cases h
 split at h
 .unfold Qps at h
  split at h
  .obtain⟨i,e,a⟩:=jQd.mp h
   obtain⟨j,l,b⟩:=jQd.mp a
   obtain⟨c,m,f⟩:=jQd.mp b
   split at f
   .cases f
    have:=Wq d (Xt e).2
    have u:=(Xt m).2
    exact(Qhq Om).trans this
   .cases f
  .cases h
 split at h
 .unfold tLike at h
  split at h
  .obtain⟨t,e,a⟩:=jQd.mp h
   obtain⟨xs,rfl⟩:=Qhn e
   split at a
   .cases a
    exact(Qah t _).trans (Qhm e).2.2
   .cases a
  .cases h
 .cases h
theorem Qky{rs:List Rw}{told:List Rw}{d:Dt}{r:Rw}(a:∀r∈rs,r.1.length=cs.length)(b:∀r∈told,r.1.length=cs.length)(h:rowT rs cs best told d=some r):r.1.length=cs.length:=by
 unfold rowT at h
 split at h
 .split at h
  .exact Qmt a b h
  .cases h
 .cases h
def Zf(rs:List Rw)(cs:List Int)(best:Option Int):List Dt->List Rw->List Rw
 |[],acc=>acc
 |d::r,acc=>match rowT rs cs best acc d with
  |none=>acc
  |some row=>Zf rs cs best r (acc++[row])
theorem Qau{rs:List Rw}{d:Dt}{r:List Dt}{acc:List Rw}(h:rowT rs cs best acc d=none):Zf rs cs best (d::r) acc=acc:=by
 show(match rowT rs cs best acc d with | none=>acc | some row=>Zf rs cs best r (acc++[row]))=acc
 rw[h]
theorem Zx{rs:List Rw}{d:Dt}{r:List Dt}{acc:List Rw}{row:Rw}(h:rowT rs cs best acc d=some row):Zf rs cs best (d::r) acc=Zf rs cs best r (acc++[row]):=by
 show(match rowT rs cs best acc d with | none=>acc | some row=>Zf rs cs best r (acc++[row]))=_
 rw[h]
structure Px(K:Fg)(H:Hp)(t p:Addr)(rs:List Rw)(cs:List Int)(us:List V)(ds:List Dt):Prop where
 prob:ProbAt K H t rs cs
 lst:SqL K H p us
 len:us.length=ds.length
 has:∀(i:Nat) v x,us[i]?=some v->ds[i]?=some x->HasT K H v x
 sm:∀x∈ds,Sm x
 rl:∀r∈rs,r.1.length=cs.length
 n:cs.length<=50
 m:rs.length<60
 k:ds.length<=2000
 ok:∀x∈ds,okD cs.length x
inductive Qdx(K:Fg)(vs:List V)(H:Hp)(Q:VK)(E:XK):Prop|mk(t p:Addr)(rs:List Rw)(cs:List Int)(best:Option Int)(us:List V)(ds:List Dt)(_:vs=[.ref t,Vk best,.ref p])(_:Px K H t p rs cs us ds)(_:∀l ws H',H l=none->Same H H'->H' l=some (.lst ws)->RowsAre K H' ws (Zf rs cs best ds [])->Q (.ref l) H'):Qdx K vs H Q E
theorem scRowsTold:FnScope ["problem","best","paper","told","line","row"] ["problem","best","paper"] (Qf Wp):=Sc
theorem Qmu(F:Fn K mg "rows_told" Wp)(M:Mg mg)(c:qC 6 "row_told" (qB 0) (Qhp K)):qC 7 "rows_told" ["problem","best","paper"] (Qdx K):=by
 refine Xd F scRowsTold (a:=fun f ag A ab s H vs Q E hr h=>?_)
 obtain⟨t,p,T,O,j,us,S,rfl,X,q⟩:=h
 refine⟨_,(Qe (Z4 3 scRowsTold.nd (Xp Qc))
  (Qe (Xy PassesOwn.never rfl (Xl (pv 2)) (Z3 4 scRowsTold.nd) (Qe (Z4 5 scRowsTold.nd (Xc c (hr.mono Dc) (Qa (pv 0) (Qa (pv 1) (Qa (pv 3) (Qa (pv 4) Qc))))))
  (Qe (Xe (Qq Qgf (pv 5) Xk (Qt _)) (Qh Qsc) Qr)
  (Qh (Zj (Wz Y1 Y2 Y3 Ye (pv 3) (Qa (pv 5) Qc)))))))
  (Qh (Qp (pv 3))))),?_⟩
 refine Zd ?_;intros
 exists"z"
 have Z:=X.k
 have af:=X.len
 exists Z1 0,fun g C=>?_
 have s0:=Qb C (.lst [])
 let aa:Nat->St->Hp->Prop:=fun i Y L=>∃(told:List Rw) (G:List V) (u v:Option V),Y=[some (.ref t),some (Vk j),some (.ref p),some (.ref g),u,v]/\L g=some (.lst G)/\RowsAre K L G told/\Zf T O j S []=Zf T O j (S.drop i) told/\told.length<=i/\(∀r∈told,r.1.length=O.length)/\Same H L
 exists 4,p,rfl,⟨_,s0.seq X.lst⟩,Yq (K:=K) (a:=p) (xs:=us) aa ⟨[],[],none,none,rfl,upd_same,.nil,rfl,jZ _,(fun _ z=>nomatch z),s0⟩ (fun i Y L _ h=>?_) ?_ ?_
 .obtain⟨told,G,u,v,rfl,R,l,B,hl,y,I⟩:=h
  exact I.seq X.lst
 .rintro i x Y L e1 ⟨told,G,u,v,rfl,R,l,B,hl,y,I⟩
  have hi:i<us.length:=(jW.mp e1).1
  obtain⟨d,U⟩:∃d,S[i]?=some d:=⟨_,gE Om⟩
  have hx:=(X.has i _ _ e1 U).same I
  have ad:S.drop i=d::S.drop (i+1):=by
   rw[List.drop_eq_getElem_cons Om]
   congr 1
   rw[gE Om]at U
   exact Y5 U
  rw[ad]at B
  have J:Jx K L t g T O G told:=⟨X.prob.same I,Qg R,l,X.rl,y,X.n,X.m,Om⟩
  exists 4,4,4,4,t,g,x,T,O,j,G,told,d,rfl,J,hx,X.sm d (kX U),X.ok d (kX U),fun W H2 N=>?_,fun row W t' H2 N ac=>?_
  .refine⟨_,rfl,rfl,_,rfl,iteT ?_⟩
   rw[Qau W]at B
   exists 4,q g G H2 C (I.trans N) (N _ _ R) ?_
   rw[B]
   exact l.imp fun _ _ z=>z.same N
  .refine⟨_,rfl,rfl,_,rfl,iteF ?_⟩
   rw[Zx W]at B
   have D:=N _ _ R
   have lw:=l.length
   exists 4,.inl ⟨rfl,_,Qg D⟩,4,g,7,D,Om,?_
   exists told++[row],_,_,4,upd_same,?_,B,by rw[yQ];simp only[zZ,jKf];lia,fun r hr'=>?_,fun b o e=>?_
   .exact RowsAre.snoc (l.imp fun _ _ z=>(z.same N).upd D) (ac.upd D)
   .rcases xW.mp hr' with hr' | hr'
    .exact y r hr'
    .cases kW.mp hr'
     exact Qky X.rl y W
   .rw[Qn (Qk e C)];exact N _ _ (I _ _ e)
 .rintro Y L ⟨told,G,u,v,rfl,R,l,B,hl,y,I⟩
  rw[List.drop_of_length_le Om]at B
  exists 4,q g G L C I R ?_
  rw[B]
  exact l
theorem Xg(e:DictEntry)(l:List DictEntry)(x:Str)(t:Tok)(h:e.key=.str x t)(s:Str):PySem.findBy PySem.Value.isStrOf ⟨e::l⟩ s=if s=x then some e.val else PySem.findBy PySem.Value.isStrOf ⟨l⟩ s:=by
 unfold PySem.findBy
 rw[List.find?_toArray,List.find?_toArray,jZf]
 by_cases a:s=x
 .subst a
  rw[Y22 rfl,h]
  have:PySem.Value.isStrOf s (.str s t)=true:=by simp[PySem.Value.isStrOf]
  rw[this]
  rfl
 .rw[Y20 a,h]
  have:PySem.Value.isStrOf s (.str x t)=false:=by simp[PySem.Value.isStrOf];exact fun z=>a z.symm
  rw[this]
structure JTab0(w:World)(K:Fg)(mg:Z9)(aT aL:Addr)(fT fL:Z9):Prop where
 tt:Tab w K mg "TELLERS" aT fT
 lt:Tab w K mg "LENGTHS" aL fL
 nt:∃v1 v2 v3 v4 v5 v6 v7 v8 v9:Value,mg "told_given"=some v1/\mg "told_low"=some v2/\mg "told_high"=some v3/\mg "told_better"=some v4/\mg "told_sum"=some v5/\mg "told_share"=some v6/\mg "told_shut"=some v7/\mg "told_either"=some v8/\mg "told_like"=some v9/\∀s,fT s=if s="given" then some v1 else if s="low" then some v2 else if s="high" then some v3 else if s="better" then some v4 else if s="sum" then some v5 else if s="share" then some v6 else if s="shut" then some v7 else if s="either" then some v8 else if s="like" then some v9 else none
 nl:∃t1 t2 t3 t4 t5 t6 t7 t8 t9:Tok,∀s,fL s=if s="given" then some (.int 2 t1)else if s="low" then some (.int 2 t2)else if s="high" then some (.int 2 t3)else if s="better" then some (.int 1 t4)else if s="sum" then some (.int 2 t5)else if s="share" then some (.int 3 t6)else if s="shut" then some (.int 3 t7)else if s="either" then some (.int 4 t8)else if s="like" then some (.int 2 t9)else none
theorem jtab0{es fs:Array DictEntry}{v1 v2 v3 v4 v5 v6 v7 v8 v9:Value}{h1 g1 h2 g2 h3 g3 h4 g4 h5 g5 h6 g6 h7 g7 h8 g8 h9 g9:Int}{t1 q1 j1 t2 q2 j2 t3 q3 j3 t4 q4 j4 t5 q5 j5 t6 q6 j6 t7 q7 j7 t8 q8 j8 t9 q9 j9:Tok}
  (i:mg "TELLERS"=some (.ref aT)) (l:K.lookup aT=some ⟨.type "dict",none,.dict es m,#[]⟩) (v:PySem.W.KeysLit w.params es.toList) (b:(aT == sysModules)=false) (g:es=⟨[⟨h1,.str "given" t1,v1⟩,⟨h2,.str "low" t2,v2⟩,⟨h3,.str "high" t3,v3⟩,⟨h4,.str "better" t4,v4⟩,⟨h5,.str "sum" t5,v5⟩,⟨h6,.str "share" t6,v6⟩,⟨h7,.str "shut" t7,v7⟩,⟨h8,.str "either" t8,v8⟩,⟨h9,.str "like" t9,v9⟩]⟩)
  (r:mg "LENGTHS"=some (.ref aL)) (c:K.lookup aL=some ⟨.type "dict",none,.dict fs n,#[]⟩) (d:PySem.W.KeysLit w.params fs.toList) (e:(aL == sysModules)=false) (h:fs=⟨[⟨g1,.str "given" q1,.int 2 j1⟩,⟨g2,.str "low" q2,.int 2 j2⟩,⟨g3,.str "high" q3,.int 2 j3⟩,⟨g4,.str "better" q4,.int 1 j4⟩,⟨g5,.str "sum" q5,.int 2 j5⟩,⟨g6,.str "share" q6,.int 3 j6⟩,⟨g7,.str "shut" q7,.int 3 j7⟩,⟨g8,.str "either" q8,.int 4 j8⟩,⟨g9,.str "like" q9,.int 2 j9⟩]⟩)
  (j:mg "told_given"=some v1) (u:mg "told_low"=some v2) (t:mg "told_high"=some v3) (p:mg "told_better"=some v4) (a:mg "told_sum"=some v5) (q:mg "told_share"=some v6) (o:mg "told_shut"=some v7) (x:mg "told_either"=some v8) (f:mg "told_like"=some v9):JTab0 w K mg aT aL (fun k=>PySem.findBy PySem.Value.isStrOf es k) (fun k=>PySem.findBy PySem.Value.isStrOf fs k):=by
 exists Qvp i l v b,Qvp r c d e,⟨v1,v2,v3,v4,v5,v6,v7,v8,v9,j,u,t,p,a,q,o,x,f,fun s=>?_⟩,⟨j1,j2,j3,j4,j5,j6,j7,j8,j9,fun s=>?_⟩
 .subst g
  show PySem.findBy _ _ s=_
  rw[Xg _ _ "given" t1 rfl,Xg _ _ "low" t2 rfl,Xg _ _ "high" t3 rfl,Xg _ _ "better" t4 rfl,Xg _ _ "sum" t5 rfl,Xg _ _ "share" t6 rfl,Xg _ _ "shut" t7 rfl,Xg _ _ "either" t8 rfl,Xg _ _ "like" t9 rfl]
  rfl
 .subst h
  show PySem.findBy _ _ s=_
  rw[Xg _ _ "given" q1 rfl,Xg _ _ "low" q2 rfl,Xg _ _ "high" q3 rfl,Xg _ _ "better" q4 rfl,Xg _ _ "sum" q5 rfl,Xg _ _ "share" q6 rfl,Xg _ _ "shut" q7 rfl,Xg _ _ "either" q8 rfl,Xg _ _ "like" q9 rfl]
  rfl
theorem Qty(J:JTab0 w K mg aT aL fT fL)
  (M:qC 4 "told_given" (qB 0) (Zm K "given")) (Y:qC 4 "told_low" (qB 0) (Zm K "low")) (H:qC 4 "told_high" (qB 0) (Zm K "high")) (R:qC 2 "told_better" (qB 0) (Zm K "better")) (I:qC 5 "told_sum" (qB 0) (Zm K "sum")) (L:qC 4 "told_share" (qB 0) (Zm K "share")) (N:qC 5 "told_shut" (qB 0) (Zm K "shut")) (D:qC 4 "told_either" (qB 0) (Zm K "either")) (y:qC 4 "told_like" (qB 0) (Zm K "like")):JTabs P w K mg base aT aL fT fL:=by
 obtain⟨v1,v2,v3,v4,v5,v6,v7,v8,Z,E,Q,B,A,T,G,U,S,C,u⟩:=J.nt
 obtain⟨k1,k2,k3,k4,k5,k6,k7,k8,k9,V⟩:=J.nl
 have a:∀{x:Str} {t:Sp} {v:Value} {k:Nat},k<=5->qC k x (qB 0) t->mg x=some v->∃fa r,v=.ref fa/\FnOk P w K mg base CX0 5 fa r (qB 0) t/\PySem.W.keepIn K (.ref fa)=true/\Binds K r (qB 0) []:=by
  intro x t v k O c X
  obtain⟨f,r,F,m,z,b⟩:=(c.mono O).ex
  rw[X]at m
  exists f,r,Y5 m,F,z,b
 exists J.tt,J.lt,fun s=>?_,fun s n h=>?_,fun s v h=>?_
 .rw[u s]
  unfold lenW
  repeat' split
  all_goals rfl
 .rw[V s]
  unfold lenW at h
  by_cases i:s="given"
  .rw[Y22 i]at h⊢;cases h;exists 4
  rw[Y20 i]at h⊢
  by_cases p:s="low"
  .rw[Y22 p]at h⊢;cases h;exists 4
  rw[Y20 p]at h⊢
  by_cases d:s="high"
  .rw[Y22 d]at h⊢;cases h;exists 4
  rw[Y20 d]at h⊢
  by_cases l:s="better"
  .rw[Y22 l]at h⊢;cases h;exists 4
  rw[Y20 l]at h⊢
  by_cases e:s="sum"
  .rw[Y22 e]at h⊢;cases h;exists 4
  rw[Y20 e]at h⊢
  by_cases j:s="share"
  .rw[Y22 j]at h⊢;cases h;exists 4
  rw[Y20 j]at h⊢
  by_cases g:s="shut"
  .rw[Y22 g]at h⊢;cases h;exists 4
  rw[Y20 g]at h⊢
  by_cases o:s="either"
  .rw[Y22 o]at h⊢;cases h;exists 4
  rw[Y20 o]at h⊢
  by_cases q:s="like"
  .rw[Y22 q]at h⊢;cases h;exists 4
  rw[Y20 q]at h⊢
  cases h
 .rw[u s]at h
  by_cases i:s="given"
  .rw[Y22 i]at h;cases h;subst i;exact a Dc M E
  rw[Y20 i]at h
  by_cases p:s="low"
  .rw[Y22 p]at h;cases h;subst p;exact a Dc Y Q
  rw[Y20 p]at h
  by_cases d:s="high"
  .rw[Y22 d]at h;cases h;subst d;exact a Dc H B
  rw[Y20 d]at h
  by_cases l:s="better"
  .rw[Y22 l]at h;cases h;subst l;exact a Dc R A
  rw[Y20 l]at h
  by_cases e:s="sum"
  .rw[Y22 e]at h;cases h;subst e;exact a Dc I T
  rw[Y20 e]at h
  by_cases j:s="share"
  .rw[Y22 j]at h;cases h;subst j;exact a Dc L G
  rw[Y20 j]at h
  by_cases g:s="shut"
  .rw[Y22 g]at h;cases h;subst g;exact a Dc N U
  rw[Y20 g]at h
  by_cases o:s="either"
  .rw[Y22 o]at h;cases h;subst o;exact a Dc D S
  rw[Y20 o]at h
  by_cases q:s="like"
  .rw[Y22 q]at h;cases h;subst q;exact a Dc y C
  rw[Y20 q]at h
  cases h
end Nb
variable{rs hd:List Nb.Rw}{ds:List Nb.Dt}
namespace L2
open PySem PySem.Spec PyProof.Rows PySem.SeqAt
theorem Qtz(h:Qay v=true):eqV v v=true:=by
 cases v with
 |non=>rfl
 |bl b=>exact beq_self_eq_true b
 |int i=>exact beq_self_eq_true i
 |str x=>exact beq_self_eq_true x
 |_=>exact nomatch h
open PySem.W in
theorem Qpy{D:Addr}{o:HO}(s:Same H H1)(a:H D=none):Same H (upd H1 D o):=fun b u e=>by
 rw[Qn (Qk e a)];exact s b u e
theorem Wr{α:Type}{xs:List α}{x:α}(h:xs[i]?=some x):xs.take (i+1)=xs.take i++[x]:=by
 obtain⟨a,e⟩:=jW.mp h
 rw[List.take_succ,h]
 rfl
theorem Qfo{g:TG}{Q:Addr->Hp->Prop}{D:Addr}(T:St->Prop)(d:Nat->Bool)(f:Nat->V)(p:H D=none)(A:n<sizeLine)(y:T τ0)
  (s:∀i H1,i<n->Same H H1->J.go i H1) (j:∀H1,Same H H1->J.stop n H1)
  (t:∀i τ H1 x H',i<n->T τ->Same H H1->J.yld i H1 x H'->∀(P1:St->V->Hp->Prop) (P2:St->Hp->Prop),(d i=true->∀σ2 H4,T σ2->Same H1 H4->P1 σ2 (f i) H4)->(d i=false->∀σ2 H3,T σ2->Same H1 H3->P2 σ2 H3) ->
   g x τ H' fun σ2 H2=>tt σ2 H2 fun ok H3=>if ok=true then te σ2 H3 fun v H4=>P1 σ2 v H4 else P2 σ2 H3)
  (hd:∀H1,Same H H1->H1 D=some (.lst (((List.range n).filter d).map f))->Q D H1) :
  LcW J D τ0 H g tt te Q:=by
 let l:Nat->St->List V->Hp->Prop:=fun i τ b H1=>T τ/\H1 D=some (.lst b)/\Same H H1/\b=((List.range i).filter d).map f
 refine Ys (n:=n) l ?_ (fun i τ b H1 k h=>?_) (fun i τ b H1 k h=>?_) (fun τ b H1 h=>?_) ?_ ?_
 .exact⟨y,upd_same,Qb p _,rfl⟩
 .obtain⟨_,a,_,rfl⟩:=h
  exists a,?_
  have w:=yYd d (List.range i)
  rw[xK]at w
  rw[jQ]
  lia
 .exact s i H1 k h.2.2.1
 .exact j H1 h.2.2.1
 .rintro i τ b H1 x H' k ⟨r,a,e,rfl⟩ z
  refine t i τ H1 x H' k r e z _ _ (fun c σ2 H4 u o=>⟨o _ _ a,u,upd_same,Qpy (e.trans o) p,?_⟩) (fun c σ2 H3 q m=>⟨q,m _ _ a,e.trans m,?_⟩)
  .rw[jYd,kJb,kK,jYe c];rfl
  .rw[jYd,kJb,kK,jYf (by rw[c];exact yX)]
   exact(kKb _).symm
 .rintro τ b H1 ⟨_,a,e,rfl⟩
  exact hd H1 e a
theorem Qbj(n:Nat):(List.range n).filter (fun _=>true)=List.range n:=yZe.mpr fun _ _=>rfl
end L2
namespace Nb
open PySem L2
theorem Qpz(b:List (Int×Int)):∀(d:List (Key×V)),(b.map (·.1)).Nodup->∀j:Nat,valV ((b.map fun p=>(p.1,V.int p.2)).foldl (fun d p=>putK d (Sum.inl p.1) p.2) d) (Sum.inl (j:Int))=match hv b j with | some w=>some (.int w) | none=>valV d (Sum.inl (j:Int)):=by
 induction b with
 |nil=>intro d _ j;rfl
 |cons p t ih=>
  intro d h j
  have a:=jYb.mp (show(p.1::t.map (·.1)).Nodup from h)
  show valV ((t.map fun p=>(p.1,V.int p.2)).foldl (fun d p=>putK d (Sum.inl p.1) p.2) (putK d (Sum.inl p.1) (V.int p.2))) (Sum.inl (j:Int))=_
  rw[ih _ a.2 j,Qjb]
  by_cases e:p.1=(j:Int)
  .rw[Y22 e]
   have:hv t j=none:=hv_none.mpr (by rw[<-e];exact a.1)
   rw[this]
   show valV (putK d (Sum.inl p.1) (V.int p.2)) (Sum.inl (j:Int))=some (.int p.2)
   rw[Wa,Y22 (by rw[e])]
  .rw[Y20 e]
   cases hv t j with
   |some w=>rfl
   |none=>
    show valV (putK d (Sum.inl p.1) (V.int p.2)) (Sum.inl (j:Int))=valV d (Sum.inl (j:Int))
    rw[Wa,Y20 (fun z=>e (Sum.inl.inj z).symm)]
theorem Qua(h:(hs.map (·.1)).Nodup)(j:Nat):valV (dOf hs) (Sum.inl (j:Int))=(hv hs j).map V.int:=by
 have:=Qpz hs [] h j
 unfold dOf Yn
 rw[this]
 cases hv hs j<;>rfl
theorem Qqa(h:Good n hs)(a:r.1.length=n):Vp (dOf hs) r.1 r.1.length-r.2=roomF n (hv hs) r:=by
 unfold roomF Vp
 rw[a]
 congr 1
 refine Qag fun j _=>?_
 rw[Qua h.nd]
 cases hv hs j<;>rfl
theorem atN(h:i<ns.length):atI (ns.map V.int) ((i:Nat):Int)=some (.int (ns.getD i 0)):=Zy (by rw[jY,gE h,jJ,gE h];rfl)
theorem Qub(c:Int)(a:List Int):inV (.int c) (a.map V.int)=decide (c∈a):=by
 induction a with
 |nil=>rfl
 |cons k r ih=>
  show(eqV (V.int k) (V.int c)||inV (.int c) (r.map V.int))=_
  rw[ih,jXc,decide_eq_true_iff,jZe,decide_eq_true_iff,zK]
  show((k == c)=true\/_)↔_
  rw[beq_iff_eq]
  constructor
  .rintro(h | h)
   .exact .inl h.symm
   .exact .inr h
  .rintro(h | h)
   .exact .inl h.symm
   .exact .inr h
theorem Qqb(b:List Int):(b.map V.int).all Qay=true:=by
 rw[jJd]
 intro x a
 obtain⟨k,_,rfl⟩:=zW.mp a
 rfl
theorem atZ{c:Int}(a:0<=c)(b:c<(ns.length:Int)):atI (ns.map V.int) c=some (.int (ns.getD c.toNat 0)):=by
 have e:c=((c.toNat:Nat):Int):=Om
 rw[e]
 exact atN Om
theorem Yo{x:V}(h:PairsAre K H ws (hs.map fun p=>(p.1,V.int p.2)))(e:ws[i]?=some x)(s:Same H H'):∃T c w,x=.ref T/\hs[i]?=some (c,w)/\SqT K H' T [.int c,.int w]:=by
 obtain⟨p,a,T,d,z⟩:=L2.Xx h e
 rw[jY]at a
 obtain⟨⟨c,w⟩,b,rfl⟩:=zQ.mp a
 exists T,c,w,d,b,s.tup z
inductive Qhr(vs:List V)(H:Hp)(Q:VK)(E:XK):Prop|mk(x m:Int)(_:vs=[.int x,.int m])(_:∀c:Bool,(c=true↔0<=x/\x<m)->Q (.bl c) H):Qhr vs H Q E
theorem at10{x:V}:atI [x] 0=some x:=by rfl
theorem at30{x:V}:atI [x,y,z] 0=some x:=by rfl
theorem at31{x:V}:atI [x,y,z] 1=some y:=by rfl
theorem at32{x:V}:atI [x,y,z] 2=some z:=by rfl
theorem at40{x:V}:atI [x,y,z,v] 0=some x:=by rfl
theorem at41{x:V}:atI [x,y,z,v] 1=some y:=by rfl
theorem at42{x:V}:atI [x,y,z,v] 2=some z:=by rfl
theorem at43{x:V}:atI [x,y,z,v] 3=some v:=by rfl
theorem big1{b:Int}(a:0<b)(c:b<=1000000):b≠0/\Big b:=⟨Om,xQ (show b.natAbs<=1000000 by lia) Dk⟩
def HasTs(K:Fg)(H:Hp)(vs:List V)(ds:List Dt):Prop:=vs.length=ds.length/\∀(i:Nat) v x,vs[i]?=some v->ds[i]?=some x->HasT K H v x
theorem HasTs.nil:HasTs K H [] []:=⟨rfl,fun i v x e=>by simp at e⟩
theorem HasTs.cons{K:Fg}{H:Hp}{v:V}{d:Dt}{vs:List V}{ds:List Dt}(h:HasT K H v d)(t:HasTs K H vs ds):HasTs K H (v::vs) (d::ds):=by
 exists by rw[zZ,zZ,t.1],fun i c x b a=>?_
 cases i with
 |zero=>simp at b a;subst b a;exact h
 |succ i=>exact t.2 i c x (by simpa using b) (by simpa using a)
theorem HasTs.ints(ns:List Int):HasTs K H (ns.map V.int) (ns.map Dt.int):=by
 induction ns with
 |nil=>exact .nil
 |cons n ns ih=>exact .cons (.int n) ih
theorem tupT(h:SqT K H a vs)(t:HasTs K H vs ds):HasT K H (.ref a) (.tup ds):=.tup h t.1 t.2
theorem lstT(h:SqL K H a vs)(t:HasTs K H vs ds):HasT K H (.ref a) (.lst ds):=.lst h t.1 t.2
def Kv(p:Int×Int):Dt:=.tup [.int p.1,.int p.2]
theorem Qvu(f:SqL K H a vs)(h:PairsAre K H vs (hs.map fun p=>(p.1,V.int p.2))):HasT K H (.ref a) (.lst (hs.map Kv)):=by
 have d:=h.length
 rw[jQ]at d
 refine .lst f (by rw[jQ,d]) fun i v x c b=>?_
 obtain⟨T,l,rfl,e,k⟩:=h.get c
 rw[jY]at e b
 obtain⟨p,g,rfl⟩:=zQ.mp e
 rw[g]at b
 cases b
 exact .tup k rfl fun j v x c b=>by
  match j,c,b with
  |0,c,b=>cases c;cases b;exact .int _
  |1,c,b=>cases c;cases b;exact .int _
theorem Xr{d:Dt}(h:Sm d)(t:∀x∈ds,Sm x):∀x∈d::ds,Sm x:=fun x a=>by
 rcases zK.mp a with z | z
 .rw[z];exact h
 .exact t x z
theorem Kw:∀x∈([]:List Dt),Sm x:=fun _ h=>nomatch h
theorem Qbk{α β:Type}{f:Dt->Option α}{g:β->Dt}{h:β->α}:∀(l:List β),(∀x∈l,f (g x)=some (h x))->allT f (l.map g)=some (l.map h)
 |[],_=>rfl
 |x::l,hh=>by
  show(match f (g x),allT f (l.map g)with | some x,some t=>some (x::t) | _,_=>none)=_
  rw[hh x kY,Qbk l fun y a=>hh y (zY _ a)]
  rfl
theorem Qxi{α β:Type}{f:Dt->Option α}{g:β->Dt}{l:List β}{x:β}(b:x∈l)(h:f (g x)=none):allT f (l.map g)=none:=by
 have e:=Ka f (l.map g)
 have:((l.map g).all fun d=>(f d).isSome)=false:=List.all_eq_false.mpr ⟨g x,zW.mpr ⟨x,b,rfl⟩,by rw[h];exact yX⟩
 rw[this]at e
 cases a:allT f (l.map g)with
 |none=>rfl
 |some _=>rw[a]at e;cases e
theorem Kc{told:List Rw}{w:Str}{xs:List Dt}(h:lenW w=some (xs.length+1)):rowT rs cs best told (.tup (.str w::xs))=Ja w rs cs best told (.str w::xs):=Y22 h
theorem Qfp{xs:List Int}{k:Nat}{z:Int}(a:k<xs.length):(xs.set k z).getD j 0=if j=k then z else xs.getD j 0:=by
 rw[jJ,jJ]
 by_cases e:j=k
 .subst e;rw[Y22 rfl,yXb a];rfl
 .rw[Y20 e,yYe (Ne.symm e)]
theorem up_div{l b:Int}(d:0<b):l.fdiv b+(if (!decide (l % b=0))=true then 1 else 0)=-((-l).fdiv b):=by
 rw[kYb _ Om,kYb _ Om]
 have e:=Int.mul_ediv_add_emod l b
 have g:=jQa l (show b≠0 by lia)
 have f:=wJ l d
 by_cases c:l % b=0
 .rw[zX c,Int.neg_ediv_of_dvd (Int.dvd_of_emod_eq_zero c)]
  simp
 .rw[zJ c]
  have:(-l) / b=-(l / b)-1:=((Int.ediv_emod_unique (a:=-l) (r:=b-l % b) (q:=-(l / b)-1) d).mpr ⟨by rw[Int.mul_sub,Int.mul_neg,Int.mul_one];lia,Om,Om⟩).1
  rw[this]
  simp
  lia
theorem ex_div{x b:Int}(a:0<b)(h:x % b=0):x.fdiv b=-((-x).fdiv b):=by
 have:=up_div (l:=x) a
 rw[zX h]at this
 simpa using this
theorem Qfq(n:Nat)(a:List (Int×Int)):(Jp n a).2=1-(a.map (·.2)).sum:=by
 show Jh a=_
 unfold Jh
 suffices h:∀z:Int,a.foldl (fun z p=>z-p.2) z=z-(a.map (·.2)).sum from h 1
 induction a with
 |nil=>intro z;show z=z-0;lia
 |cons p r ih=>intro z;rw[kXd,ih,xZ,List.sum_cons];lia
theorem Qcu{xs ys:List Int}(k:xs.length=n)(i:ys.length=n)(m:c<n):Xf xs c=Xf ys c↔∀j,j<n->j≠c->xs.getD j 0=ys.getD j 0:=by
 have e:∀g:List Int,g.length=n->Xf g c=g.set c 0:=fun g p=>by
  unfold Xf
  rw[List.set_eq_take_append_cons_drop,Y22 Om]
  simp
 rw[e xs k,e ys i]
 constructor
 .intro h j o d
  have:=congrArg (fun l=>l.getD j 0) h
  rw[Qfp Om,Qfp Om,Y20 d,Y20 d]at this
  exact this
 .intro h
  refine List.ext_getElem (by rw[wW,wW];lia) fun j a b=>?_
  rw[wW]at a b
  have f:(xs.set c 0).getD j 0=(ys.set c 0).getD j 0:=by
   rw[Qfp Om,Qfp Om]
   by_cases d:j=c
   .rw[Y22 d,Y22 d]
   .rw[Y20 d,Y20 d];exact h j Om d
  rw[jJ,jJ,gE (by rw[wW];exact a),gE (by rw[wW];exact b)]at f
  exact f
theorem Quc(n:Nat):(qg ((n:Int)).toNat [V.int 0]).flatten=(qg n (0:Int)).map V.int:=by
 rw[yV];exact rep0 n
def AnsO(K:Fg)(H:Hp)(Q:VK)(o:Option Rw):Prop:=(o=none->∀H',Same H H'->Q .non H')/\∀r,o=some r->∀t' H',Same H H'->RowAt K H' t' r->Q (.ref t') H'
theorem AnsO.no{Q:VK}{p:Prop}[Decidable p]{r:Rw}(h:AnsO K H Q (if p then some r else none))(n:¬p)(s:Same H H'):Q .non H':=h.1 (Y20 n) H' s
theorem AnsO.yes{Q:VK}{p:Prop}[Decidable p]{r:Rw}(h:AnsO K H Q (if p then some r else none))(n:p){t:Addr}(s:Same H H')(z:RowAt K H' t r):Q (.ref t) H':=h.2 r (Y22 n) t H' s z
theorem AnsO.later{Q:VK}{o:Option Rw}(h:AnsO K H Q o)(s:Same H H1):AnsO K H1 Q o:=⟨fun e b a=>h.1 e b (s.trans a),fun r e t b a=>h.2 r e t b (s.trans a)⟩
theorem Qkz(ns:List Int)(g:Int->Int):((List.range ns.length).filter fun _=>true).map (fun i=>V.int (g (ns.getD i 0)))=(ns.map g).map V.int:=by
 rw[Qbj]
 refine jZd fun k=>?_
 rw[jY,jY,jY]
 by_cases h:k<ns.length
 .rw[jYa h,gE h]
  show some (V.int (g (ns.getD k 0)))=some (V.int (g ns[k]))
  rw[jJ,gE h];rfl
 .rw[wX (by rw[xK];lia),wX Om];rfl
inductive spShr(K:Fg)(vs:List V)(H:Hp)(Q:VK)(E:XK):Prop|mk(t:Addr)(r:List Int×Int)(b:Int)(_:vs=[.ref t,.int b])(_:RowAt K H t r)(_:1<=b)(_:b<=3)(_:r.1.length<=1000)(_:AnsO K H Q (if divides r b=true then some (Vc r b)else none)):spShr K vs H Q E
inductive Qqc(K:Fg)(vs:List V)(H:Hp)(Q:VK)(E:XK):Prop|mk(t l:Addr)(r:List Int×Int)(hs:List (Int×Int))(_:vs=[.ref t,.ref l])(_:RowAt K H t r)(_:HoldsAt K H l hs)(_:Good r.1.length hs)(_:r.1.length<=1000)(_:hs.length<=1001)(_:∀H',Same H H'->Q (.int (Wn r hs)) H'):Qqc K vs H Q E
theorem Qxj(h:Good r.1.length hs):Qpi r hs+r.2=Wn r hs:=by
 rw[Qtj h,<-Qqa h rfl]
 show Vp (dOf hs) r.1 r.1.length-r.2+r.2=Vp (dOf hs) r.1 r.1.length
 lia
theorem Qqd(n:Nat){c w:Int}(e:hs[i]?=some (c,w)):Yb n (hs.take (i+1))=(Yb n (hs.take i)).set c.toNat (1-2*w):=by
 unfold Yb
 rw[Zw e,jJf]
 rfl
inductive Qqe(K:Fg)(vs:List V)(H:Hp)(Q:VK)(E:XK):Prop|mk(l:Addr)(n:Nat)(hs:List (Int×Int))(_:vs=[.int (n:Int),.ref l])(_:HoldsAt K H l hs)(_:Good n hs)(_:n<=1000)(_:hs.length<=1000)(_:∀t' H',Same H H'->RowAt K H' t' (Jp n hs)->Q (.ref t') H'):Qqe K vs H Q E
inductive spSht(K:Fg)(vs:List V)(H:Hp)(Q:VK)(E:XK):Prop|mk(t l:Addr)(r:List Int×Int)(hs:List (Int×Int))(n:Nat)(_:vs=[.ref t,.ref l])(_:RowAt K H t r)(_:HoldsAt K H l hs)(_:r.1.length=n)(_:Good n hs)(_:n<=1000)(_:hs.length<=1000)(_:AnsO K H Q (if Wn r hs<r.2 then some (Jp n hs)else none)):spSht K vs H Q E
theorem Qvv:∀(n:Nat) (l:List Nat),l.Nodup->(∀x∈l,x<n)->l.length<=n
 |0,l,_,h=>by
  cases l with
  |nil=>exact jZ _
  |cons a t=>exact Y21 (h a (kY ..)) (kXe _)
 |n+1,l,nd,h=>by
  have c:=Qvv n (l.erase n) (nd.erase n) fun x d=>by
   obtain⟨a,b⟩:=nd.mem_erase_iff.mp d
   have:=h x b
   lia
  rw[List.length_erase]at c
  split at c<;>lia
theorem Qbl(h:Good n hs):hs.length<=n:=by
 have e:(hs.map fun p=>p.1.toNat).Nodup:=by
  have b:=h.nd
  have ok:=h.ok
  clear h
  induction hs with
  |nil=>exact yQa
  |cons p t ih=>
   rw[xZ,jYb]at b⊢
   exists fun z=>?_,ih b.2 fun q a=>ok q (zY _ a)
   obtain⟨q,a,g⟩:=zW.mp z
   have i:=(ok q (zY _ a)).1
   have f:=(ok p (kY ..)).1
   exact b.1 (zW.mpr ⟨q,a,Om⟩)
 have c:=Qvv n _ e fun x d=>by
  obtain⟨q,a,rfl⟩:=zW.mp d
  have:=h.ok q a
  show q.1.toNat<n
  lia
 rw[jQ]at c
 exact c
abbrev sIs:Stmt:=top 51
abbrev sShr:Stmt:=top 54
theorem scIs:FnScope ["_law_thing","_law_most_here"] ["_law_thing","_law_most_here"] (Qf sIs):=Sc
theorem okIs(F:Fn K mg "_law_is" sIs)(M:Mg mg):qC 1 "_law_is" ["_law_thing","_law_most_here"] (Qhr):=by
 refine Xd F scIs (a:=fun f d A a s H b Q E e h=>?_)
 obtain⟨x,m,rfl,q⟩:=h
 exists _,(Qh (Qp (Jq (Qi Qjz rfl M.isinstance Qw (Qa (pv 0) (Qa (Jl M.int_ Qdo) Qc))) (Jq (Qvf (Qi Qjz rfl M.isinstance Qw (Qa (pv 0) (Qa (Jl M.bool_ Qem) Qc)))) (Jq (Ze Qnk (pv 0) Qd (Qt _)) (Qao (Ze Qeg (pv 0) (pv 1) (Qt _)))))))),?_
 exists 4,_,"int",true,rfl,.inl ⟨rfl,rfl⟩,true,rfl,iteT ⟨_,rfl,_,"bool",false,rfl,.inr (.inl ⟨rfl,rfl⟩),_,rfl,_,rfl,iteT ⟨_,rfl,_,_,rfl,rfl,_,rfl,ite2 (fun c=>⟨_,rfl,_,rfl,_,_,rfl,rfl,?_⟩) (fun c=>?_)⟩⟩
 .exact q _ (by rw[decide_eq_true_iff];exists fun z=>⟨kZ c,z⟩,fun z=>z.2)
 .have:=q false ⟨fun z=>(nomatch z),fun z=>Y21 (zX z.1) c⟩
  exact this
theorem scShr:FnScope ["_law_row_here","_law_by","_law_number"] ["_law_row_here","_law_by"] (Qf sShr):=Sc
theorem okShr(F:Fn K mg "_law_shared" sShr)(M:Mg mg):qC 1 "_law_shared" ["_law_row_here","_law_by"] (spShr K):=by
 refine Xd F scShr (a:=fun f Y A G s H vs Q E hr h=>?_)
 obtain⟨t,r,b,rfl,⟨p,J,j⟩,b1,b3,hn,q⟩:=h
 refine⟨_,(Qe (Xe (PW.pt (Yv (Xq (Xj (Qi Xm rfl M.isinstance Qw (Qa (pv 1) (Qa (Jl M.int_ Qdo) Qc))))) (Yv (Xj (Qi Xm rfl M.isinstance Qw (Qa (pv 1) (Qa (Jl M.bool_ Qem) Qc)))) (Yh (Qq Qeg (pv 1) Qd (Qt _)))))) (Qh (Qp Xk)) Qr)
  (Qe (Xy PassesOwn.never rfl (Qbr (Qo Qm (pv 0) Qd)) (Z3 2 scShr.nd) (Qh (Xe (Qq Qaw (Qx Yx (pv 2) (pv 1)) Qd (Qt _)) (Qh (Qp Xk)) Qr)))
  (Qh (Qp (Xh (Qa (Qz Xb rfl M.tuple_ Xo (Qa (Zv ["_law_number","_law_by"] [none,some 1] rfl (Qbr (Qo Qm (pv 0) Qd)) (fun _ _ _=>(Z3 0 (show(["_law_number","_law_by"]:List Str).Nodup by decide +kernel))) (fun _ _ _=>Yf) (fun _ _ _=>(Qx We (pv 0) (pv 1)))) Qc)) (Qa (Qx Yr Qd (Qx We (Qx Yr Qd (Qo Qm (pv 0) Qd)) (pv 1))) Qc))))))),?_⟩
 refine Zd ?_;intros
 exists"z"
 exists 4,_,"int",true,rfl,.int,rfl,4,iteF ⟨_,rfl,_,"bool",false,rfl,.bool,rfl,_,rfl,iteF ⟨_,rfl,_,_,rfl,rfl,_,rfl,ite2 (fun y=>Y21 (kZ y) Om) (fun _=>?_)⟩⟩
 exists 4,t,8,J,at0,p,rfl,⟨_,j⟩,Qng (K:=K) (a:=p) (xs:=r.1.map V.int) (fun i o B=>(∃u:Option V,o=[some (.ref t),some (.int b),u])/\B=H/\∀x∈r.1.take i,x % b=0) ⟨⟨none,rfl⟩,rfl,fun _ h=>(nomatch h)⟩ (fun i o B _ h=>?_) ?_ ?_
 .obtain⟨_,rfl,_⟩:=h
  exact j
 .rintro i x o B k ⟨⟨u,rfl⟩,rfl,e⟩
  obtain⟨z,m,rfl⟩:=Xu k
  exists 4,4,7,(show(0:Int)<b by lia),rfl,4,ite2 (fun c=>q.no (fun d=>?_) (Same.refl _)) (fun c=>⟨⟨_,rfl⟩,rfl,fun x hx=>?_⟩)
  .have:=kZ (jJd.mp d z (kX m))
   have O:(!decide (V.int (z % b)=V.int 0))=true:=c
   rw[this]at O;exact Y21 O Dc
  .rw[Zw m]at hx
   rcases xW.mp hx with hx | hx
   .exact e x hx
   .rw[kW.mp hx]
    exact Classical.byContradiction fun y=>c (by show(!decide (V.int (z % b)=V.int 0))=true;rw[Qhl,zJ y];rfl)
 .rintro o B ⟨⟨u,rfl⟩,rfl,e⟩
  rw[jQ,wV]at e
  have W:divides r b=true:=jJd.mpr fun x hx=>zX (e x hx)
  exists 4,t,8,J,at0,p,rfl,⟨_,j⟩,fun D hD=>?_
  refine Qfo (n:=r.1.length) (fun S=>∃v:Option V,S=[v,some (.int b)]) (fun _=>true) (fun i=>V.int ((r.1.getD i 0).fdiv b)) hD Om ⟨none,rfl⟩ (fun i L N g=>⟨_,.int r.1[i],g.tup j,by rw[jY,gE N];rfl⟩) (fun L g=>⟨_,g.tup j,by rw[jQ];exact jZ _⟩) ?_ (fun L g R=>?_)
  .rintro i S L x H9 N ⟨v,rfl⟩ g ⟨rfl,k⟩ P1 P2 X h2
   obtain⟨z,m,rfl⟩:=Xu (k _ (g.tup j))
   have eg:=Qfl m
   exists 4,4,7,big1 Om Om,?_
   have:=X rfl [some (.int z),some (.int b)] _ ⟨_,rfl⟩ (Same.refl _)
   rw[eg]at this
   exact this
  rw[Qkz r.1 fun x=>x.fdiv b]at R
  exists D,4,.inl ⟨Qg R,fun I C=>?_⟩
  have T:=g.trans (Qb C (.tup ((r.1.map fun x=>x.fdiv b).map V.int)))
  exists 4,t,8,T.tup J,at1,7,4,7,big1 Om Om,7,Z1 2,fun t2 l=>?_
  have k:(r.1.map fun x=>x.fdiv b)=r.1.map fun x=>-((-x).fdiv b):=kZd fun x hx=>ex_div Om (e x hx)
  have Z:(0:Int)-(0-r.2).fdiv b=-((-r.2).fdiv b):=by rw[Int.zero_sub,Int.zero_sub]
  refine q.yes W (T.trans (Qb l _)) ⟨I,Ql (upd_same.trans (congrArg (fun z=>some (HO.tup [.ref I,.int z])) Z)),(Qb l _).tup ?_⟩
  show SqT K _ I ((r.1.map fun x=>-((-x).fdiv b)).map V.int)
  rw[<-k]
  exact Ql upd_same
abbrev sMst:Stmt:=top 55
abbrev sSho:Stmt:=top 56
abbrev sSht:Stmt:=top 57
theorem scMst:FnScope ["_law_row_here","_law_holds_here","_law_held","_law_total"] ["_law_row_here","_law_holds_here"] (Qf sMst):=Sc
theorem okMst(F:Fn K mg "_law_most" sMst)(M:Mg mg):qC 1 "_law_most" ["_law_row_here","_law_holds_here"] (Qqc K):=by
 refine Xd F scMst (a:=fun f aj A ae s H vs Q E hr h=>?_)
 obtain⟨t,l,r,B,rfl,rt,hh,hG,hn,ai,q⟩:=h
 refine⟨_,(Qe (Z4 2 scMst.nd (Zv ["_law_choice","_law_worth"] [none,none] rfl (Xl (pv 1)) (fun _ _ _=>(Yg (K:=K) (i:=0) (j:=1) rfl rfl (show(["_law_choice","_law_worth"]:List Str).Nodup by decide +kernel) rfl rfl rfl rfl)) (fun _ _ _=>Yf) (fun _ _ _=>(pv 0))))
  (Qe (Z4 3 scMst.nd (Qi (Qby rfl) rfl M.sum Qoc (Qa (Zv ["_law_choice","_law_worth","_law_row_here"] [none,none,some 0] rfl (Xl (pv 1)) (fun _ _ _=>(Yg (K:=K) (i:=0) (j:=1) rfl rfl (show(["_law_choice","_law_worth","_law_row_here"]:List Str).Nodup by decide +kernel) rfl rfl rfl rfl)) (fun _ _ _=>Yf) (fun _ _ _=>(Qx Qap (Qo (Zr (K:=K) rfl) (Qo (Zr (K:=K) rfl) (pv 2) Qd) (pv 0)) (pv 1)))) Qc)))
  (Qh (Qp (Qx Yw (pv 3) (Qi (Qby rfl) rfl M.sum Qoc (Qa (Zv ["_law_k","_law_row_here","_law_held"] [none,some 0,some 2] rfl (Yi rfl M.range_ (Qa (qL (Qo Qm (pv 0) Qd)) Qc)) (fun _ _ _=>(Z3 0 (show(["_law_k","_law_row_here","_law_held"]:List Str).Nodup by decide +kernel))) (fun _ _ _=>(Qnu (Qq (Qeq (K:=K) rfl) (pv 0) (pv 2) rfl))) (fun _ _ _=>(Qi (Ko rfl) rfl M.max Qgu (Qa Qd (Qa (Qo (Zr (K:=K) rfl) (Qo (Zr (K:=K) rfl) (pv 1) Qd) (pv 0)) Qc))))) Qc))))))),?_⟩
 refine Zd ?_;intros
 exists"z"
 obtain⟨p,S,U⟩:=id rt
 obtain⟨Z,O,W⟩:=id hh
 have lv:=W.length
 rw[jQ]at lv
 exists 4,l,rfl,⟨_,O⟩,fun D hD=>?_
 let ag:Nat->St->List V->Hp->Prop:=fun i d a R=>∃u v:Option V,d=[u,v]/\a=((B.map (·.1)).take i).map V.int/\R D=some (.lst a)/\Same H R
 refine Ys (n:=B.length) ag ?_ (fun i d a R C h=>?_) (fun i d a R C h=>?_) (fun d a R h=>?_) ?_ ?_
 .exact⟨none,none,rfl,rfl,upd_same,Qb hD _⟩
 .obtain⟨u,v,rfl,rfl,m,z⟩:=h
  exists m,by rw[jQ,yY];lia
 .obtain⟨u,v,rfl,rfl,m,z⟩:=h
  exists Z,Z[i]'Om,z.seq O,gE Om
 .obtain⟨u,v,rfl,rfl,m,z⟩:=h
  exists Z,z.seq O,Om
 .rintro i d a R x L C ⟨u,v,rfl,rfl,m,z⟩ ⟨rfl,e1⟩
  obtain⟨T,c,w,rfl,ec,hT⟩:=Yo W (e1 _ (z.seq O)) z
  exists T,4,hT,rfl,_,4,7,?_
  exists 4,m,_,4,?_,upd_same,fun b o e=>?_
  .rw[Zw (show(B.map (·.1))[i]?=some c by rw[jY,ec];rfl),kK];rfl
  .rw[Qn (Qk e hD)];exact z _ _ e
 rintro d a R ⟨u,v,rfl,rfl,m,z⟩
 rw[yW (by rw[jQ];exact jZ _)]at m
 exists 4,l,rfl,⟨_,z.seq O⟩,fun D2 ac=>?_
 let ad:Nat->St->List V->Hp->Prop:=fun i d a L=>∃u v:Option V,d=[u,v,some (.ref t)]/\a=((B.map fun p=>r.1.getD p.1.toNat 0*p.2).take i).map V.int/\L D2=some (.lst a)/\Same R L
 refine Ys (n:=B.length) ad ?_ (fun i d a L C h=>?_) (fun i d a L C h=>?_) (fun d a L h=>?_) ?_ ?_
 .exact⟨none,none,rfl,rfl,upd_same,Qb ac _⟩
 .obtain⟨u,v,rfl,rfl,N,G⟩:=h
  exists N,by rw[jQ,yY];lia
 .obtain⟨u,v,rfl,rfl,N,G⟩:=h
  exists Z,Z[i]'Om,(z.trans G).seq O,gE Om
 .obtain⟨u,v,rfl,rfl,N,G⟩:=h
  exists Z,(z.trans G).seq O,Om
 .rintro i d a L x J C ⟨u,v,rfl,rfl,N,G⟩ ⟨rfl,e1⟩
  have g:=z.trans G
  obtain⟨T,c,w,rfl,ec,hT⟩:=Yo W (e1 _ (g.seq O)) g
  obtain⟨g1,g2,g3⟩:=hG.ok (c,w) (kX ec)
  exists T,4,hT,rfl,_,4,7,?_
  exists 4,t,8,g.tup S,at0,4,p,8,g.tup U,atZ g1 g2,4,7,.inr ⟨by show -(2 ^ 64)<w;have:w=0\/w=1:=g3;lia,by show w<2 ^ 64;have:w=0\/w=1:=g3;lia⟩,N,_,4,?_,upd_same,fun b o e=>?_
  .rw[Zw (show(B.map fun p=>r.1.getD p.1.toNat 0*p.2)[i]?=some (r.1.getD c.toNat 0*w)by rw[jY,ec];rfl),kK];rfl
  .rw[Qn (Qk e ac)];exact G _ _ e
 rintro d a L ⟨u2,v2,rfl,rfl,N,G⟩
 rw[yW (by rw[jQ];exact jZ _)]at N
 have g:=z.trans G
 exists D2,4,Qg N,?_
 have ln:(r.1.map V.int).length=r.1.length:=jQ ..
 exists 4,4,t,8,g.tup S,at0,p,4,.inr (g.tup U),4,Om,by rw[ln];lia,fun D3 ab=>?_
 refine Ys (n:=Int.toNat (((r.1.map V.int).length:Nat):Int)) (fun i d a J=>∃v:Option V,d=[v,some (.ref t),some (.ref D)]/\a=(((List.range i).filter fun(k:Nat)=>!decide ((k:Int)∈B.map (·.1))).map fun(k:Nat)=>addF none (r.1.getD k 0)).map V.int/\J D3=some (.lst a)/\Same L J) ?_ (fun i d a J C h=>?_) (fun i d a J C h=>C) (fun d a J h=>jZ _) ?_ ?_
 .exact⟨none,rfl,rfl,upd_same,Qb ab _⟩
 .obtain⟨v,rfl,rfl,X,Y⟩:=h
  exists X,?_
  have:=yYd (fun(k:Nat)=>!decide ((k:Int)∈B.map (·.1))) (List.range i)
  rw[xK]at this
  rw[jQ,jQ]
  rw[ln]at C
  lia
 .rintro i d a J x H4 C ⟨v,rfl,rfl,X,Y⟩ ⟨rfl,rfl⟩
  have aa:=G.trans Y
  have I:=z.trans aa
  have af:i<r.1.length:=by rw[ln]at C;lia
  have ez:(0:Int)+(i:Int)=((i:Nat):Int):=Om
  rw[ez]
  exists 4,4,D,4,.inl (Qg (aa _ _ m)),rfl,Qqb _,4,?_
  rw[Qub]
  refine ite2 (fun y=>?_) (fun y=>?_)
  .have y':(!decide (((i:Nat):Int)∈B.map (·.1)))=true:=y
   exists 4,t,8,I.tup S,at0,4,p,8,I.tup U,atN af,_,4,X,4,?_,upd_same,fun b o e=>?_
   .rw[jYd,kJb,kK,kK,jYe (p:=fun(k:Nat)=>!decide ((k:Int)∈B.map (·.1))) y'];rfl
   .rw[Qn (Qk e ab)];exact Y _ _ e
  .have y':¬(!decide (((i:Nat):Int)∈B.map (·.1)))=true:=y
   exists 4,?_,?_,Y
   .rw[jYd,kJb,jYf (p:=fun(k:Nat)=>!decide ((k:Int)∈B.map (·.1))) y',List.filter_nil,kKb]
   .rw[X]
 .rintro d a J ⟨v,rfl,rfl,X,Y⟩
  have en:Int.toNat (((r.1.map V.int).length:Nat):Int)=r.1.length:=by rw[ln];lia
  rw[en]at X
  have I:=g.trans Y
  have q5:=q J I
  rw[<-Qxj hG]at q5
  unfold Qpi at q5
  rw[Int.sub_add_cancel]at q5
  exists D3,4,Qg X,7,q5
theorem scSho:FnScope ["_law_many","_law_holds_here","_law_numbers","_law_choice","_law_worth"] ["_law_many","_law_holds_here"] (Qf sSho):=Sc
theorem okSho(F:Fn K mg "_law_shut_out" sSho)(M:Mg mg):qC 1 "_law_shut_out" ["_law_many","_law_holds_here"] (Qqe K):=by
 refine Xd F scSho (a:=fun f ai A ac s H vs Q E hr h=>?_)
 obtain⟨l,n,d,rfl,⟨U,J,I⟩,hG,hn,ah,q⟩:=h
 refine⟨_,(Qe (Z4 2 scSho.nd (Qx Kq (Xp (Qa Qd Qc)) (pv 0)))
  (Qe (Xy PassesOwn.never rfl (Xl (pv 1)) (Yg (K:=K) (i:=3) (j:=4) rfl rfl scSho.nd rfl rfl rfl rfl) (Qh (Zo (Qx Yr Qd (Qx Qap Qd (pv 4))) (Kg (pv 2) (pv 3) set_list))))
  (Qh (Qp (Xh (Qa (Qz Xb rfl M.tuple_ Xo (Qa (pv 2) Qc)) (Qa (Qx Yr Qd (Qi (Qby rfl) rfl M.sum Qoc (Qa (Zv ["_law_choice","_law_worth"] [none,none] rfl (Xl (pv 1)) (fun _ _ _=>(Yg (K:=K) (i:=0) (j:=1) rfl rfl (show(["_law_choice","_law_worth"]:List Str).Nodup by decide +kernel) rfl rfl rfl rfl)) (fun _ _ _=>Yf) (fun _ _ _=>(pv 1))) Qc))) Qc))))))),?_⟩
 refine Zd ?_;intros
 exists"z"
 have lv:=I.length
 rw[jQ]at lv
 exists Z1 1,fun X W=>?_
 exists 4,X,(n:Int),4,rfl,upd_same,Om,Om,by show 1*((n:Int)).toNat<=sizeLine;lia,fun m z=>?_
 have e0:(qg ((n:Int)).toNat [V.int 0]).flatten=(qg n (0:Int)).map V.int:=rep0 n
 rw[e0]
 have s0:Same H (upd (upd H X (.lst [.int 0])) m (.lst ((qg n (0:Int)).map V.int))):=(Qb W _).trans (Qb z _)
 have gH:H m=none:=by
  cases e5:H m with
  |none=>rfl
  |some o=>rw[Qb W (.lst [.int 0]) _ _ e5]at z;cases z
 have hg:upd (upd H X (.lst [.int 0])) m (.lst ((qg n (0:Int)).map V.int)) m=some (.lst ((qg n (0:Int)).map V.int)):=upd_same
 generalize upd (upd H X (.lst [.int 0])) m (.lst ((qg n (0:Int)).map V.int))=H0 at s0 hg⊢
 let ad:Nat->St->Hp->Prop:=fun i Y G=>∃u v:Option V,Y=[some (.int (n:Int)),some (.ref l),some (.ref m),u,v]/\G m=some (.lst ((Yb n (d.take i)).map V.int))/\Same H G
 exists 4,l,rfl,⟨_,s0.seq J⟩,Yq (K:=K) (a:=l) (xs:=U) ad ⟨none,none,rfl,hg,s0⟩ (fun i Y G _ h=>?_) ?_ ?_
 .obtain⟨u,v,rfl,g,N⟩:=h
  exact N.seq J
 .rintro i x Y G e1 ⟨u,v,rfl,g,N⟩
  obtain⟨T,pr,rfl,ep,hT⟩:=I.get e1
  rw[jY]at ep
  obtain⟨⟨c,w⟩,Z,rfl⟩:=zQ.mp ep
  obtain⟨k1,k2,k3⟩:=hG.ok (c,w) (kX Z)
  have ag:0<=c:=k1
  have aj:c<(n:Int):=k2
  have aa:(Yb n (d.take i)).length=n:=Qat n _
  exists T,4,N.tup hT,rfl,_,4,7,?_
  exists 4,7,.inl ⟨Dc,Dc⟩,7,4,4,m,_,_,c.toNat,rfl,rfl,g,by rw[show c=((c.toNat:Nat):Int)by lia];exact Qaz (by rw[jQ,aa];lia),?_
  exists some (.int c),some (.int w),rfl,?_,fun b o e=>?_
  .rw[upd_same,Qqd n Z,kZa]
  .rw[Qn (Qk e gH)];exact N _ _ e
 .rintro Y G ⟨u,v,rfl,g,N⟩
  have eT:d.take U.length=d:=by rw[lv,wV]
  rw[eT]at g
  exists 4,m,4,.inl ⟨Qg g,fun S ab=>?_⟩
  have O:=N.trans (Qb ab (.tup ((Yb n d).map V.int)))
  have y:SqT K (upd G S (.tup ((Yb n d).map V.int))) S ((Yb n d).map V.int):=Ql upd_same
  generalize upd G S (.tup ((Yb n d).map V.int))=H2 at O y⊢
  exists 4,l,rfl,⟨_,O.seq J⟩,fun D hD=>?_
  let ae:Nat->St->List V->Hp->Prop:=fun i L B C=>∃u v:Option V,L=[u,v]/\B=((d.map fun p=>p.2).take i).map V.int/\C D=some (.lst B)/\Same H2 C
  refine Ys (n:=d.length) ae ?_ (fun i L B C hi h=>?_) (fun i L B C hi h=>?_) (fun L B C h=>?_) ?_ ?_
  .exact⟨none,none,rfl,rfl,upd_same,Qb hD _⟩
  .obtain⟨u,v,rfl,rfl,r,k⟩:=h
   exists r,by rw[jQ,yY];lia
  .obtain⟨u,v,rfl,rfl,r,k⟩:=h
   exists U,U[i]'Om,(O.trans k).seq J,gE Om
  .obtain⟨u,v,rfl,rfl,r,k⟩:=h
   exists U,(O.trans k).seq J,Om
  .rintro i L B C x H4 hi ⟨u,v,rfl,rfl,r,k⟩ ⟨rfl,e1⟩
   have R:=O.trans k
   obtain⟨T,c,w,rfl,Z,hT⟩:=Yo I (e1 _ (R.seq J)) R
   exists T,4,hT,rfl,_,4,7,4,r,_,4,?_,upd_same,fun b o e=>?_
   .rw[Zw (show(d.map fun p=>p.2)[i]?=some w by rw[jY,Z];rfl),kK];rfl
   .rw[Qn (Qk e hD)];exact k _ _ e
  rintro L B C ⟨u2,v2,rfl,rfl,r,k⟩
  rw[yW (by rw[jQ];exact jZ _)]at r
  exists D,4,Qg r,7,Z1 2,fun t ht=>?_
  have s4:=Qb ht (.tup [.ref S,.int (1-(d.map fun p=>p.2).sum)])
  exact q t _ ((O.trans k).trans s4) ⟨S,Ql (by rw[upd_same,Qfq]),(k.trans s4).tup y⟩
theorem scSht:FnScope ["_law_row_here","_law_holds_here","_law_many","_law_hold"] ["_law_row_here","_law_holds_here"] (Qf sSht):=Sc
theorem okSht(F:Fn K mg "_law_shut" sSht)(M:Mg mg)(k:qC 1 "_law_is" ["_law_thing","_law_most_here"] (Qhr))(m:qC 1 "_law_most" ["_law_row_here","_law_holds_here"] (Qqc K))(g:qC 1 "_law_shut_out" ["_law_many","_law_holds_here"] (Qqe K)):qC 2 "_law_shut" ["_law_row_here","_law_holds_here"] (spSht K):=by
 refine Xd F scSht (a:=fun f ap A ab s H vs Q E hr h=>?_)
 obtain⟨t,l,r,j,n,rfl,U,hh,Y,hG,hn,an,q⟩:=h
 refine⟨_,(Qe (Z4 2 scSht.nd (qL (Qo Qm (pv 0) Qd)))
  (Qe (Xe (Xq (Xj (Qi Xm rfl M.isinstance Qw (Qa (pv 1) (Qa (Jl M.list_ Yj) Qc))))) (Qh (Qp Xk)) Qr)
  (Qe (Xy PassesOwn.never rfl (Xl (pv 1)) (Z3 3 scSht.nd) (Qh (Xe (PW.pt (Yv (Xq (Xj (Qi Xm rfl M.isinstance Qw (Qa (pv 3) (Qa (Jl M.tuple_ Xo) Qc))))) (Yv (Qq Qaw (qL (pv 3)) Qd (Qt _)) (Yv (Xq (Xj (Xc k (hr.mono Dc) (Qa (Qo Qm (pv 3) Qd) (Qa (pv 2) Qc))))) (Yh (Xq (Xj (Xc k (hr.mono Dc) (Qa (Qo Qm (pv 3) Qd) (Qa Qd Qc)))))))))) (Qh (Qp Xk)) Qr)))
  (Qe (Xe (PW.pt (Yv (Qq Qaw (Qi Wh rfl M.len Qy (Qa (Qz (Qch rfl) rfl M.set_ Qox (Qa (Zv ["_law_hold"] [none] rfl (Xl (pv 1)) (fun _ _ _=>(Z3 0 Z2)) (fun _ _ _=>Yf) (fun _ _ _=>(Qo (Zr (K:=K) rfl) (pv 0) Qd))) Qc)) Qc)) (qL (pv 1)) (Qt _)) (Yh (Qq Qnk (Xc m (hr.mono Dc) (Qa (pv 0) (Qa (pv 1) Qc))) (Qo Qm (pv 0) Qd) (Qt _))))) (Qh (Qp Xk)) Qr)
  (Qh (Qp (Xc g (hr.mono Dc) (Qa (pv 2) (Qa (pv 1) Qc))))))))),?_⟩
 refine Wj ?_;intros
 exists"z"
 obtain⟨p,X,ae⟩:=id U
 obtain⟨Z,I,N⟩:=id hh
 have lv:=N.length
 rw[jQ]at lv
 have ln:(r.1.map V.int).length=n:=by rw[jQ,Y]
 exists 4,t,8,X,at0,p,4,.inr ae,?_
 exists 4,_,"list",true,rfl,.list,.inr ⟨⟨_,I⟩,rfl⟩,4,iteF ?_
 let ag:Nat->St->Hp->Prop:=fun i σ H1=>(∃u:Option V,σ=[some (.ref t),some (.ref l),some (.int (((r.1.map V.int).length:Nat):Int)),u])/\H1=H
 exists 4,l,rfl,⟨_,I⟩,Yq (K:=K) (a:=l) (xs:=Z) ag ⟨⟨none,rfl⟩,rfl⟩ (fun i σ H1 _ h=>?_) ?_ ?_
 .obtain⟨_,rfl⟩:=h
  exact I
 .rintro i x σ H1 e1 ⟨⟨u,rfl⟩,rfl⟩
  obtain⟨T,c,w,rfl,ec,R⟩:=Yo N e1 (Same.refl _)
  obtain⟨g1,g2,g3⟩:=hG.ok (c,w) (kX ec)
  have ac:0<=c:=g1
  have af:c<(n:Int):=g2
  have am:w=0\/w=1:=g3
  exists 4,_,"tuple",true,rfl,.tuple,.inl ⟨⟨_,R⟩,rfl⟩,4,iteF ?_
  exists 4,T,4,.inr R,rfl,4,iteF ?_
  exists 4,T,8,R,at0,4,c,4,fun c1 ai=>⟨_,rfl,ite2 (fun y=>?_) (fun _=>?_)⟩
  .rw[ai.mpr ⟨ac,by rw[ln];exact af⟩]at y;exact Y21 y Dc
  exists 4,T,8,R,at1,w,2,rfl,fun c2 ad=>⟨_,rfl,ite2 (fun y=>?_) (fun _=>⟨⟨_,rfl⟩,rfl⟩)⟩
  rw[ad.mpr ⟨Om,Om⟩]at y;exact Y21 y Dc
 .rintro σ H1 ⟨⟨u,rfl⟩,rfl⟩
  exists 4,l,rfl,⟨_,I⟩,fun D hD=>?_
  let aj:Nat->St->List V->Hp->Prop:=fun i O L C=>∃v:Option V,O=[v]/\L=((j.map (·.1)).take i).map V.int/\C D=some (.lst L)/\Same H1 C
  refine Ys (n:=j.length) aj ?_ (fun i O L C hi h=>?_) (fun i O L C hi h=>?_) (fun O L C h=>?_) ?_ ?_
  .exact⟨none,rfl,rfl,upd_same,Qb hD _⟩
  .obtain⟨v,rfl,rfl,J,B⟩:=h
   exists J,by rw[jQ,yY];lia
  .obtain⟨v,rfl,rfl,J,B⟩:=h
   exists Z,Z[i]'Om,B.seq I,gE Om
  .obtain⟨v,rfl,rfl,J,B⟩:=h
   exists Z,B.seq I,Om
  .rintro i O L C x H3 hi ⟨v,rfl,rfl,J,B⟩ ⟨rfl,e1⟩
   obtain⟨T,c,w,rfl,ec,R⟩:=Yo N (e1 _ (B.seq I)) B
   exists 4,T,8,R,at0,J,4,?_,upd_same,fun b o e=>?_
   .rw[Zw (show(j.map (·.1))[i]?=some c by rw[jY,ec];rfl),kK];rfl
   .rw[Qn (Qk e hD)];exact B _ _ e
  rintro O L C ⟨v,rfl,rfl,J,B⟩
  rw[yW (by rw[jQ];exact jZ _)]at J
  exists D,j.map (·.1),rfl,Qg J,by rw[jQ];lia,fun d S hd=>?_
  have G:=B.trans (Qb hd (.set S ((j.map (·.1)).foldl PyProof.Rows.step_dedup []).length))
  have dn:((j.map (·.1)).foldl PyProof.Rows.step_dedup []).length=j.length:=by rw[(Qci _).mpr hG.nd,jQ]
  have W:upd C d (.set S ((j.map (·.1)).foldl PyProof.Rows.step_dedup []).length) d=some (.set S ((j.map (·.1)).foldl PyProof.Rows.step_dedup []).length):=upd_same
  generalize upd C d (.set S ((j.map (·.1)).foldl PyProof.Rows.step_dedup []).length)=H3 at G W⊢
  exists d,S,4,W,4,l,4,.inl (G.seq I),rfl,4,?_
  rw[dn,show Z.length=j.length from lv]
  refine ite2 (fun e=>Y21 e (by simp)) (fun _=>?_)
  have aa:Good r.1.length j:=by rw[Y];exact hG
  exists 4,4,t,l,r,j,rfl,U.same G,hh.same G,aa,Om,Om,fun H4 s4=>⟨_,rfl,t,_,_,_,rfl,rfl,(G.trans s4).tup X,at1,_,_,rfl,rfl,_,rfl,?_⟩
  refine ite2 (fun e=>q.no (fun z=>?_) (G.trans s4)) (fun e=>?_)
  .have e':r.2<=Wn r j:=kZ e
   lia
  .have e':Wn r j<r.2:=by
    have:¬r.2<=Wn r j:=fun z=>e (zX z)
    lia
   exists 4,4,l,n,j,by rw[ln];rfl,hh.same (G.trans s4),hG,hn,Om,fun t' H5 s5 ah=>q.yes e' ((G.trans s4).trans s5) ah
inductive spEit(K:Fg)(vs:List V)(H:Hp)(Q:VK)(E:XK):Prop|mk(t1 t2:Addr)(r1 r2:List Int×Int)(c n:Nat)(_:vs=[.ref t1,.ref t2,.int (c:Int)])(_:RowAt K H t1 r1)(_:RowAt K H t2 r2)(_:r1.1.length=n)(_:r2.1.length=n)(_:n<=1000)(_:c<n)(_:AnsO K H Q (if Xf r1.1 c=Xf r2.1 c then some (Js r1 r2 c)else none)):spEit K vs H Q E
def InH(hd:List Rw)(k:Int):Prop:=0<=k/\k<(hd.length:Int)
noncomputable instance (hd:List Rw) (k:Int):Decidable (InH hd k):=inferInstanceAs (Decidable (_/\_))
def pI(hd:List Rw)(ps:List (Int×Int)):List Part:=ps.map fun p=>(rowK hd p.1.toNat,p.2)
def Qdj(hd:List Rw)(ps:List (Int×Int)):Prop:=ps≠[]/\∀p∈ps,InH hd p.1
noncomputable instance (hd:List Rw) (ps:List (Int×Int)):Decidable (Qdj hd ps):=inferInstanceAs (Decidable (_/\_))
inductive Qqf(K:Fg)(vs:List V)(H:Hp)(Q:VK)(E:XK):Prop|mk(t h l:Addr)(rs hd:List (List Int×Int))(cs:List Int)(ws:List V)(ps:List (Int×Int))(_:vs=[.ref t,.ref h,.ref l])(_:ProbAt K H t rs cs)(_:SqL K H h ws)(_:RowsAre K H ws hd)(_:(∀r∈hd,r.1.length=cs.length))(_:hd.length<=2000)(_:HoldsAt K H l ps)(_:(∀p∈ps,0<=p.2/\p.2<=3))(_:cs.length<=1000)(_:AnsO K H Q (if Qdj hd ps then some (Yl cs.length (pI hd ps))else none)):Qqf K vs H Q E
theorem Qaj{hd:List (List Int×Int)}{k:Int}(h:RowsAre K H ws hd)(f:0<=k)(g:k<(hd.length:Int)):∃t,atI ws k=some (.ref t)/\RowAt K H t (rowK hd k.toNat)/\rowK hd k.toNat∈hd:=by
 have d:=Paired.length h
 have b:k.toNat<ws.length:=Om
 obtain⟨r,a,t,e,z⟩:=L2.Xx h (gE b)
 have q:atI ws ((k.toNat:Nat):Int)=some (.ref t):=Zy (by rw[gE b,e])
 rw[show((k.toNat:Nat):Int)=k by lia]at q
 have c:rowK hd k.toNat=r:=by unfold rowK;rw[jJ,a];rfl
 rw[c]
 exists t,q,z,kX a
theorem zipV{xs ys:List Int}(f:Int->Int->Int)(b:xs.length=n)(a:ys.length=n):((List.range n).filter fun _=>true).map (fun k=>V.int (f (xs.getD k 0) (ys.getD k 0)))=(List.zipWith f xs ys).map V.int:=by
 rw[Qbj]
 refine jZd fun k=>?_
 rw[jY,jY]
 by_cases h:k<n
 .rw[jYa h,List.getElem?_zipWith,gE (show k<xs.length by lia),gE (show k<ys.length by lia)]
  show some (V.int (f (xs.getD k 0) (ys.getD k 0)))=some (V.int (f xs[k] ys[k]))
  rw[jJ,jJ,gE (show k<xs.length by lia),gE (show k<ys.length by lia)];rfl
 .rw[wX (by rw[xK];lia),wX (by rw[yZd];lia)];rfl
theorem pI_len{ps:List (Int×Int)}(c:∀r∈hd,r.1.length=n)(h:∀p∈ps,InH hd p.1):∀q∈pI hd ps,q.1.1.length=n:=fun q d=>by
 obtain⟨p,e,rfl⟩:=zW.mp d
 obtain⟨a,b⟩:=h p e
 exact Wq c Om
def SL(K:Fg)(H:Hp)(u:Addr)(rs:List Rw)(cs:List Int)(best:Option Int)(o:Option Rw):Prop:=(SqT K H u [.str "better"]/\o=best.map (Ku cs))\/∃k:Int,(SqT K H u [.str "given",.int k]/\o=if InH rs k then some (rowK rs k.toNat)else none)\/(SqT K H u [.str "low",.int k]/\o=if 0<=k/\k<(cs.length:Int)then some (Ya cs.length k.toNat 1 0)else none)\/(SqT K H u [.str "high",.int k]/\o=if 0<=k/\k<(cs.length:Int)then some (Ya cs.length k.toNat (-1) (-1))else none)
inductive Qqg(K:Fg)(vs:List V)(H:Hp)(Q:VK)(E:XK):Prop|mk(t u:Addr)(rs:List (List Int×Int))(cs:List Int)(best:Option Int)(o:Option Rw)(_:vs=[.ref t,Vk best,.ref u])(_:ProbAt K H t rs cs)(_:(∀r∈rs,r.1.length=cs.length))(_:SL K H u rs cs best o)(_:cs.length<=1000)(_:rs.length<=1000)(_:AnsO K H Q o):Qqg K vs H Q E
abbrev sEit:Stmt:=top 58
abbrev sSum:Stmt:=top 53
theorem scEit:FnScope ["_law_one","_law_other","_law_at","_law_k"] ["_law_one","_law_other","_law_at"] (Qf sEit):=Sc
theorem okEit(F:Fn K mg "_law_either" sEit)(M:Mg mg):qC 1 "_law_either" ["_law_one","_law_other","_law_at"] (spEit K):=by
 refine Xd F scEit (a:=fun f ae A W s H vs Q E hr h=>?_)
 obtain⟨g,L,a,I,c,n,rfl,⟨x,p,B⟩,⟨p2,T,b2⟩,C,Y,hn,j,q⟩:=h
 refine⟨_,(Qe (Xy PassesOwn.never rfl (Yi rfl M.range_ (Qa (qL (Qo Qm (pv 0) Qd)) Qc)) (Z3 3 scEit.nd) (Qh (Xe (PW.pt (Kn (Qq Qaw (pv 3) (pv 2) (Qt _)) (Ju (Qq Qaw (Qo Qm (Qo Qm (pv 0) Qd) (pv 3)) (Qo Qm (Qo Qm (pv 1) Qd) (pv 3)) (Qt _))))) (Qh (Qp Xk)) Qr)))
  (Qh (Qp (Xh (Qa (Qx Qik (Qx Qoo (Za Qdm (Qo Qm (pv 0) Qd) Kp (Yt (pv 2))) (Xh (Qa Qd Qc))) (Za Qdm (Qo Qm (pv 0) Qd) (Yt (Qx Yw (pv 2) Qd)) Kp)) (Qa (Qi (Qgg rfl) rfl M.min Qvo (Qa (Qx Yr (Qo Qm (pv 0) Qd) (Qo Qm (Qo Qm (pv 0) Qd) (pv 2))) (Qa (Qo Qm (pv 1) Qd) Qc))) Qc)))))),?_⟩
 exists"z"
 have v:(a.1.map V.int).length=n:=by rw[jQ,C]
 have G:cutV (a.1.map V.int) none (some (c:Int))=(a.1.take c).map V.int:=by
  unfold cutV
  show((a.1.map V.int).drop 0).take ((if (c:Int)<0 then((c:Int)+((a.1.map V.int).length:Int)).toNat else min ((c:Int)).toNat (a.1.map V.int).length)-0)=_
  rw[Y20 (kYc.mpr (jXa c)),yYf,yQe,v,yV,jYc (kYd j),Nat.sub_zero]
 have J:cutV (a.1.map V.int) (some ((c:Int)+1)) none=(a.1.drop (c+1)).map V.int:=by
  unfold cutV
  show((a.1.map V.int).drop (if (c:Int)+1<0 then((c:Int)+1+((a.1.map V.int).length:Int)).toNat else min ((c:Int)+1).toNat (a.1.map V.int).length)).take ((a.1.map V.int).length-(if (c:Int)+1<0 then((c:Int)+1+((a.1.map V.int).length:Int)).toNat else min ((c:Int)+1).toNat (a.1.map V.int).length))=_
  rw[Y20 (show ¬(c:Int)+1<0 from kYc.mpr (jXa (c+1))),yQf]
  have e:min ((c:Int)+1).toNat (a.1.map V.int).length=c+1:=by rw[v];exact jYc (show c+1<=n from j)
  rw[e]
  apply yW
  rw[jJc]
  exact jZ _
 exists 4,g,8,p,at0,x,4,.inr B,4,Om,by rw[v];lia,Jf (lo:=0) (n:=Int.toNat (((a.1.map V.int).length:Nat):Int)) (fun i Z H1=>(∃u:Option V,Z=[some (.ref g),some (.ref L),some (.int (c:Int)),u])/\H1=H/\∀k,k<i->k≠c->a.1.getD k 0=I.1.getD k 0) ⟨⟨none,rfl⟩,rfl,fun k R=>Y21 R (kXe k)⟩ ?_ ?_
 .rintro i Z H1 hi ⟨⟨u,rfl⟩,rfl,m⟩
  have r:i<n:=by rw[v]at hi;lia
  have ez:(0:Int)+(i:Int)=((i:Nat):Int):=Om
  rw[ez]
  exists 4,4,rfl,4,ite2 (fun d=>?_) (fun d=>iteF ⟨⟨_,rfl⟩,rfl,fun k R N=>?_⟩)
  case refine_2=>
   have ic:i=c:=Classical.byContradiction fun z=>d (by show(!decide (V.int ((i:Nat):Int)=V.int ((c:Nat):Int)))=true;rw[Qhl,zJ Om];rfl)
   exact m k Om N
  have nc:i≠c:=fun z=>by
   rw[z]at d
   exact Y21 d (by simp)
  exists 4,g,8,p,at0,4,x,8,B,atN (by rw[C];exact r),4,L,8,T,at0,4,p2,8,b2,atN (by rw[Y];exact r),rfl,4,?_
  refine ite2 (fun e=>q.no (fun z=>?_) (Same.refl _)) (fun e=>⟨⟨_,rfl⟩,rfl,fun k R N=>?_⟩)
  .have:=(Qcu C Y j).mp z i r nc
   have e':(!decide (V.int (a.1.getD i 0)=V.int (I.1.getD i 0)))=true:=e
   rw[this]at e';exact Y21 e' (by simp)
  .by_cases U:k<i
   .exact m k U N
   .have ki:k=i:=Om
    rw[ki]
    exact Classical.byContradiction fun y=>e (by show(!decide (V.int (a.1.getD i 0)=V.int (I.1.getD i 0)))=true;rw[Qhl,zJ y];rfl)
 .rintro Z H1 ⟨⟨u,rfl⟩,rfl,m⟩
  have hw:Xf a.1 c=Xf I.1 c:=(Qcu C Y j).mpr fun k R N=>m k (by rw[v];lia) N
  exists 4,g,8,p,at0,4,4,x,4,B,?_,fun q1 ab=>?_
  .rintro⟨_,h2⟩
   have o:(if (c:Int)<0 then((c:Int)+((a.1.map V.int).length:Int)).toNat else min ((c:Int)).toNat (a.1.map V.int).length)=(a.1.map V.int).length:=h2
   rw[Y20 (kYc.mpr (jXa c)),v,yV,jYc (kYd j)]at o
   exact Y21 o (zV j)
  rw[G]
  have s1:=Qb ab (.tup ((a.1.take c).map V.int))
  exists Z1 1,fun q2 ad=>?_
  have s2:=Qb ad (.tup [V.int 0])
  exists q1,q2,7,s2.tup (Ql upd_same),Ql upd_same,by simp,by rw[jQ,yY];show _+1<=_;lia,fun q3 H3 s3 o=>?_
  have l:=(s1.trans s2).trans s3
  exists 4,g,8,l.tup p,at0,4,7,4,x,4,l.tup B,?_,fun q4 ac=>?_
  .rintro⟨h2,_⟩
   have o:(if (c:Int)+1<0 then((c:Int)+1+((a.1.map V.int).length:Int)).toNat else min ((c:Int)+1).toNat (a.1.map V.int).length)=0:=h2
   rw[Y20 (show ¬(c:Int)+1<0 from kYc.mpr (jXa (c+1))),v]at o
   exact Y21 ((jYc (show c+1<=n from j)).symm.trans o) (jQc c)
  rw[J]
  have S:=Qb ac (.tup ((a.1.drop (c+1)).map V.int))
  have X:(Xf a.1 c).map V.int=((a.1.take c).map V.int++[V.int 0])++(a.1.drop (c+1)).map V.int:=by
   unfold Xf;rw[kK,kK];rfl
  exists q3,q4,7,S.tup o,Ql upd_same,by simp,by rw[yQ,jQ,jQ,yY,jJc];show _+1+_<=_;lia,fun he=>?_,fun he q5 aa=>?_
  .have b:=l.trans S
   have O:=S.tup o
   rw[he,kKb]at X
   rw[<-X]at O
   exists 4,g,8,b.tup p,at1,4,g,8,b.tup p,at0,4,x,8,b.tup B,atN (by rw[C];exact j),7,4,L,8,b.tup T,at1,_,4,Z1 2,fun t D=>?_
   exact q.yes hw (b.trans (Qb D _)) ⟨_,Ql upd_same,(Qb D _).tup O⟩
  .have b:=(l.trans S).trans (Qb aa (.tup (((a.1.take c).map V.int++[V.int 0])++(a.1.drop (c+1)).map V.int)))
   have O:SqT K (upd (upd H3 q4 (.tup ((a.1.drop (c+1)).map V.int))) q5 (.tup (((a.1.take c).map V.int++[V.int 0])++(a.1.drop (c+1)).map V.int))) q5 ((Xf a.1 c).map V.int):=by rw[X];exact Ql upd_same
   exists 4,g,8,b.tup p,at1,4,g,8,b.tup p,at0,4,x,8,b.tup B,atN (by rw[C];exact j),7,4,L,8,b.tup T,at1,_,4,Z1 2,fun t D=>?_
   exact q.yes hw (b.trans (Qb D _)) ⟨_,Ql upd_same,(Qb D _).tup O⟩
theorem scSum:FnScope ["_law_problem_here","_law_heard","_law_parts","_law_numbers","_law_least","_law_part","_law_row_here"] ["_law_problem_here","_law_heard","_law_parts"] (Qf sSum):=Sc
theorem okSum(F:Fn K mg "_law_summed" sSum)(M:Mg mg)(O:qC 1 "_law_is" ["_law_thing","_law_most_here"] (Qhr)):qC 2 "_law_summed" ["_law_problem_here","_law_heard","_law_parts"] (Qqf K):=by
 refine Xd F scSum (a:=fun f aA A ap s H vs Q E hr h=>?_)
 obtain⟨t,h,l,rs,B,d,ws,J,rfl,⟨lP,c,vP,ht,aC,aE,hc⟩,hw,ac,aa,aw,⟨us,G,ah⟩,ao,hn,q⟩:=h
 refine⟨_,(Qe (Xe (PW.pt (Yv (Xq (Xj (Qi Xm rfl M.isinstance Qw (Qa (pv 2) (Qa (Jl M.list_ Yj) Qc))))) (Yh (Qq Xz (qL (pv 2)) Qd (Qt _))))) (Qh (Qp Xk)) Qr)
  (Qe (Z4 3 scSum.nd (Qx Kq (Xp (Qa Qd Qc)) (qL (Qo Qm (pv 0) Qd))))
  (Qe (Z4 4 scSum.nd Qd)
  (Qe (Xy PassesOwn.never rfl (Xl (pv 2)) (Z3 5 scSum.nd) (Qe (Xe (PW.pt (Yv (Xq (Xj (Qi Xm rfl M.isinstance Qw (Qa (pv 5) (Qa (Jl M.tuple_ Xo) Qc))))) (Yv (Qq Qaw (qL (pv 5)) Qd (Qt _)) (Yh (Xq (Xj (Xc O (hr.mono Dc) (Qa (Qo Qm (pv 5) Qd) (Qa (qL (pv 1)) Qc))))))))) (Qh (Qp Xk)) Qr)
  (Qe (Xe (PW.pt (Yv (Xq (Xj (Qi Xm rfl M.isinstance Qw (Qa (Qo Qm (pv 5) Qd) (Qa (Jl M.int_ Qdo) Qc))))) (Yv (Xj (Qi Xm rfl M.isinstance Qw (Qa (Qo Qm (pv 5) Qd) (Qa (Jl M.bool_ Qem) Qc)))) (Yh (Qq Qeg (Qo Qm (pv 5) Qd) Qd (Qt _)))))) (Qh (Qp Xk)) Qr)
  (Qe (Z4 6 scSum.nd (Qo ix_list (pv 1) (Qo Qm (pv 5) Qd)))
  (Qe (Z4 3 scSum.nd (Zv ["_law_k","_law_numbers","_law_part","_law_row_here"] [none,some 3,some 5,some 6] rfl (Yi rfl M.range_ (Qa (qL (pv 3)) Qc)) (fun _ _ _=>(Z3 0 (show(["_law_k","_law_numbers","_law_part","_law_row_here"]:List Str).Nodup by decide +kernel))) (fun _ _ _=>Yf) (fun _ _ _=>(Qx Yw (Qo (Qeo (K:=K) rfl) (pv 1) (pv 0)) (Qx Qap (Qo (Zr (K:=K) rfl) (pv 2) Qd) (Qo (Zr (K:=K) rfl) (Qo (Zr (K:=K) rfl) (pv 3) Qd) (pv 0)))))))
  (Qh (Z4 4 scSum.nd (Qx Yw (pv 4) (Qx Qap (Qo Qm (pv 5) Qd) (Qo Qm (pv 6) Qd))))))))))
  (Qh (Qp (Xh (Qa (Qz Xb rfl M.tuple_ Xo (Qa (pv 3) Qc)) (Qa (pv 4) Qc))))))))),?_⟩
 refine Wj ?_;intros
 exists"z"
 have lc:(d.map V.int).length=d.length:=jQ ..
 have lw:=Paired.length ac
 have lv:=ah.length
 rw[jQ]at lv
 exists 4,_,"list",true,rfl,.list,.inr ⟨⟨_,G⟩,rfl⟩,4,iteF ⟨_,rfl,l,_,rfl,.inl G,rfl,_,rfl,ite2 (fun y=>q.no (fun z=>z.1 ?_) (Same.refl _)) (fun y=>?_)⟩
 .have y0:(us.length:Int)=0:=V.int.inj (kZ y)
  exact jJe Om
 have ak:J≠[]:=fun z=>y (by show decide (V.int (us.length:Int)=V.int 0)=true;rw[lv,z];rfl)
 exists Z1 1,fun p0 ar=>?_
 have X:=Qb ar (.lst [.int 0])
 have I:upd H p0 (.lst [.int 0]) p0=some (.lst [.int 0]):=upd_same
 generalize upd H p0 (.lst [.int 0])=H0 at X I⊢
 exists 4,t,8,X.tup ht,at1,c,4,.inr (X.tup hc),p0,(((d.map V.int).length:Nat):Int),4,rfl,I,Om,Om,by show 1*((((d.map V.int).length:Nat):Int)).toNat<=sizeLine;lia,fun W N=>?_
 rw[Quc]
 have S:=X.trans (Qb N (.lst ((qg (d.map V.int).length (0:Int)).map V.int)))
 have R:upd H0 W (.lst ((qg (d.map V.int).length (0:Int)).map V.int)) W=some (.lst ((qg (d.map V.int).length (0:Int)).map V.int)):=upd_same
 have gH:H W=none:=by
  cases e5:H W with
  |none=>rfl
  |some o=>rw[X _ _ e5]at N;cases N
 generalize upd H0 W (.lst ((qg (d.map V.int).length (0:Int)).map V.int))=H1 at S R⊢
 rw[lc]at R
 exists 4,l,rfl,⟨_,S.seq G⟩,Yq (K:=K) (a:=l) (xs:=us) (fun i σ Z=>∃(D:Addr) (u v:Option V),σ=[some (.ref t),some (.ref h),some (.ref l),some (.ref D),some (.int (Yl d.length (pI B (J.take i))).2),u,v]/\Z D=some (.lst ((Yl d.length (pI B (J.take i))).1.map V.int))/\(∀p∈J.take i,InH B p.1)/\Same H Z) ⟨W,none,none,rfl,R,fun _ h=>(nomatch h),S⟩ (fun i σ Z _ h=>?_) ?_ ?_
 .obtain⟨D,u,v,rfl,_,_,j⟩:=h
  exact j.seq G
 .rintro i x σ Z e1 ⟨D,u,v,rfl,e,g,j⟩
  have ae:=Qaf d.length _ (pI_len aa g)
  have ay:=(jW.mp e1).1
  obtain⟨T,a,b,rfl,ec,C⟩:=Yo ah e1 j
  obtain⟨b0,b3⟩:=ao (a,b) (kX ec)
  have az:0<=b:=b0
  have av:b<=3:=b3
  exists 4,_,"tuple",true,rfl,.tuple,.inl ⟨⟨_,C⟩,rfl⟩,4,iteF ⟨_,rfl,T,_,rfl,.inr C,rfl,_,rfl,iteF ?_⟩
  exists 4,T,8,C,at0,4,h,4,.inl (j.seq hw),a,4,fun bb ad=>⟨_,rfl,ite2 (fun y=>q.no (fun z=>?_) j) (fun y=>?_)⟩
  .have:=z.2 (a,b) (kX ec)
   rw[ad.mpr ⟨this.1,by rw[lw];exact this.2⟩]at y;exact Y21 y Dc
  have am:bb=true:=by
   cases bb with
   |true=>rfl
   |false=>exact Y21 rfl y
  obtain⟨a0,a1⟩:=ad.mp am
  exists 4,T,8,C,at1,_,"int",true,rfl,.int,rfl,4,iteF ⟨_,rfl,T,_,_,_,rfl,rfl,C,at1,_,"bool",false,rfl,.bool,rfl,_,rfl,iteF ⟨_,rfl,T,_,_,_,rfl,rfl,C,at1,_,_,rfl,rfl,_,rfl,ite2 (fun y=>Y21 (kZ y) Om) (fun _=>?_)⟩⟩
  obtain⟨tr,aq,⟨pr,L,ag⟩,ab⟩:=Qaj (ac.imp fun _ _ z=>z.same j) a0 (by rw[<-lw];exact a1)
  have Y:=aa _ ab
  have U:Yl d.length (pI B (J.take (i+1)))=addPart (Yl d.length (pI B (J.take i))) (rowK B a.toNat,b):=by
   unfold pI Yl
   rw[Zw ec,kK,jJf];rfl
  generalize rowK B a.toNat=r at L ag ab Y U
  generalize Yl d.length (pI B (J.take i))=SR at e ae U⊢
  exists 4,4,T,8,C,at0,h,8,j.seq hw,aq,?_
  exists 4,D,4,.inl (Qg e),4,Om,by rw[jQ];lia,fun D3 al=>?_
  refine Qfo (n:=d.length) (fun τ=>∃v:Option V,τ=[v,some (.ref D),some (.ref T),some (.ref tr)]) (fun _=>true) (fun k=>V.int (SR.1.getD k 0+b*r.1.getD k 0)) al Om ⟨none,rfl⟩ (fun k H3 hk m=>by show k<Int.toNat _;rw[jQ];lia) (fun H3 m=>by show Int.toNat _<=_;rw[jQ];lia) ?_ (fun H3 m hE=>?_)
  .rintro k τ H3 x H9 hk ⟨v,rfl⟩ m ⟨rfl,rfl⟩ P1 P2 h1 h2
   have an:=atN (ns:=SR.1) (i:=k) Om
   have aj:=atN (ns:=r.1) (i:=k) Om
   have ek:(0:Int)+(k:Int)=((k:Nat):Int):=Om
   rw[ek]
   exists 4,4,D,8,Qg (m _ _ e),an,4,T,8,m.tup C,at1,4,tr,8,m.tup L,at0,4,pr,8,m.tup ag,aj,7,.inl ⟨by show -(2 ^ 64)<b;lia,by show b<2 ^ 64;lia⟩,7,h1 rfl _ _ ⟨_,rfl⟩ (Same.refl _)
  rw[zipV (fun x y=>x+b*y) ae Y]at hE
  exists 4,4,T,8,m.tup C,at1,4,tr,8,m.tup L,at1,7,.inl ⟨by show -(2 ^ 64)<b;lia,by show b<2 ^ 64;lia⟩,7,?_
  rw[U]
  exists D3,_,4,hE,fun p hp=>?_,j.trans m
  rw[Zw ec]at hp
  rcases xW.mp hp with hp | hp
  .exact g p hp
  .rw[kW.mp hp];exists a0,by rw[<-lw];exact a1
 .rintro σ Z ⟨D,u,v,rfl,e,g,j⟩
  rw[yW Om]at g e
  exists 4,D,4,.inl ⟨Qg e,fun l2 ai=>⟨_,rfl,Z1 2,fun t2 af=>?_⟩⟩
  rw[yW Om]
  exact q.yes ⟨ak,g⟩ ((j.trans (Qb ai _)).trans (Qb af _)) ⟨l2,Ql upd_same,(Qb af _).tup (Ql upd_same)⟩
abbrev sSim:Stmt:=top 52
theorem scSim:FnScope ["_law_problem_here","_law_best","_law_line","_law_numbers"] ["_law_problem_here","_law_best","_law_line"] (Qf sSim):=Sc
theorem okSim(F:Fn K mg "_law_simple" sSim)(M:Mg mg)(ad:qC 1 "_law_is" ["_law_thing","_law_most_here"] (Qhr)):qC 2 "_law_simple" ["_law_problem_here","_law_best","_law_line"] (Qqg K):=by
 refine Xd F scSim (a:=fun f aq A aj s H L Q E hr h=>?_)
 obtain⟨t,u,rs,a,aa,o,rfl,⟨l,c,L,ht,hl,ae,hc⟩,an,ag,hn,hm,q⟩:=h
 have ai:=Z6 6 hr.un
 have Z:=Z6 1 hr.un
 refine⟨_,(Qe (Z4 3 scSim.nd (Qx Kq (Xp (Qa Qd Qc)) (qL (Qo Qm (pv 0) Qd))))
  (Qe (Xe (Qq (op_eqW ai) (pv 2) (Xh (Qa Xi Qc)) (Qt _)) (Qe (Xe (Qq Qgf (pv 1) Xk (Qt _)) (Qh (Qp Xk)) Qr)
  (Qh (Qp (Xh (Qa (Qz Xb rfl M.tuple_ Xo (Qa (Zv ["_law_cost"] [none] rfl (Qbr (Qo Qm (pv 0) Qd)) (fun _ _ _=>(Z3 0 Z2)) (fun _ _ _=>Yf) (fun _ _ _=>(Qx Yr Qd (pv 0)))) Qc)) (Qa (Qx Yr Qd (pv 1)) Qc)))))) Qr)
  (Qe (Xe (PW.pt (Yv (Qq Qaw (qL (pv 2)) Qd (Qt _)) (Yh (Xq (Xj (Xc ad (hr.mono Dc) (Qa (Qo Qm (pv 2) Qd) (Qa (Qo ix_list (Xp (Qa (qL (pv 3)) (Qa (qL (Qo Qm (pv 0) Qd)) Qc))) (Qz Qgh rfl M.int_ Qdo (Qa (Ze Xz (Qo Qm (pv 2) Qd) Xi (Qt _)) Qc))) Qc)))))))) (Qh (Qp Xk)) Qr)
  (Qe (Xe (Qq Xz (Qo Qm (pv 2) Qd) Xi (Qt _)) (Qh (Qp (Qo ix_list (Qo Qm (pv 0) Qd) (Qo Qm (pv 2) Qd)))) Qr)
  (Qe (Xe (Qq Xz (Qo Qm (pv 2) Qd) Xi (Qt _)) (Qe (Zo Qd (Kg (pv 3) (Qo Qm (pv 2) Qd) set_list))
  (Qh (Qp (Xh (Qa (Qz Xb rfl M.tuple_ Xo (Qa (pv 3) Qc)) (Qa Qd Qc)))))) Qr)
  (Qe (Xe (Qq Xz (Qo Qm (pv 2) Qd) Xi (Qt _)) (Qe (Zo (Jr Zg Qd) (Kg (pv 3) (Qo Qm (pv 2) Qd) set_list))
  (Qh (Qp (Xh (Qa (Qz Xb rfl M.tuple_ Xo (Qa (pv 3) Qc)) (Qa (Jr Zg Qd) Qc)))))) Qr)
  (Qh (Qp Xk)))))))),?_⟩
 refine Qew ?_;intros
 exists"z"
 have lr:=Paired.length ae
 have lc:(a.map V.int).length=a.length:=jQ ..
 exists Z1 1,fun p0 al=>?_
 have s0:=Qb al (.lst [.int 0])
 have Y:upd H p0 (.lst [.int 0]) p0=some (.lst [.int 0]):=upd_same
 generalize upd H p0 (.lst [.int 0])=H0 at s0 Y⊢
 exists 4,t,8,s0.tup ht,at1,c,4,.inr (s0.tup hc),p0,(((a.map V.int).length:Nat):Int),4,rfl,Y,Om,Om,by show 1*((((a.map V.int).length:Nat):Int)).toNat<=sizeLine;lia,fun r ac=>?_
 rw[Quc]
 have af:=s0.trans (Qb ac (.lst ((qg (a.map V.int).length (0:Int)).map V.int)))
 have I:upd H0 r (.lst ((qg (a.map V.int).length (0:Int)).map V.int)) r=some (.lst ((qg (a.map V.int).length (0:Int)).map V.int)):=upd_same
 have gH:H r=none:=by
  cases e5:H r with
  |none=>rfl
  |some o=>rw[s0 _ _ e5]at ac;cases ac
 generalize upd H0 r (.lst ((qg (a.map V.int).length (0:Int)).map V.int))=H1 at af I⊢
 rw[lc]at I
 exists 4,Z1 1,fun T ah=>?_
 have sT:=Qb ah (.tup [.str "better"])
 have R:SqT K (upd H1 T (.tup [.str "better"])) T [.str "better"]:=Ql upd_same
 generalize upd H1 T (.tup [.str "better"])=H2 at sT R⊢
 have j:=af.trans sT
 rcases ag with⟨Z,rfl⟩ | ⟨k,⟨Z,rfl⟩ | ⟨Z,rfl⟩ | ⟨Z,rfl⟩⟩
 .refine⟨u,T,_,_,[],rfl,rfl,j.tup Z,R,fun X J=>?_⟩
  rw[J.mpr ⟨rfl,rfl⟩]
  exists 4,iteT ?_
  cases aa with
  |none=>exists 4,rfl,4,iteT (q.1 rfl _ j)
  |some b=>
  exists 4,rfl,4,iteF ?_
  exists 4,t,8,j.tup ht,at1,c,rfl,⟨_,j.tup hc⟩,fun D hD=>?_
  refine Qfo (n:=a.length) (fun τ=>∃v:Option V,τ=[v]) (fun _=>true) (fun i=>V.int (0-a.getD i 0)) hD Om ⟨none,rfl⟩ (fun i W hi m=>⟨_,.int a[i],(j.trans m).tup hc,by rw[jY,gE hi];rfl⟩) (fun W m=>⟨_,(j.trans m).tup hc,by rw[jQ];exact jZ _⟩) ?_ (fun W m hE=>?_)
  .rintro i τ W x H9 hi ⟨v,rfl⟩ m ⟨rfl,e1⟩ P1 P2 h1 h2
   obtain⟨z,ez,rfl⟩:=Xu (e1 _ ((j.trans m).tup hc))
   have eg:=Qfl ez
   exists 4,7,?_
   have:=h1 rfl [some (.int z)] _ ⟨_,rfl⟩ (Same.refl _)
   rw[eg]at this
   exact this
  rw[Qkz a fun x=>0-x]at hE
  exists D,4,.inl ⟨Qg hE,fun l2 O=>⟨_,rfl,_,_,rfl,rfl,Z1 2,fun t2 p=>?_⟩⟩
  have e1:(a.map fun x=>0-x)=a.map fun x=>-x:=kZd fun x _=>Int.zero_sub x
  rw[e1]at p⊢
  exact q.2 _ rfl t2 _ (((j.trans m).trans (Qb O _)).trans (Qb p _)) ⟨l2,Ql upd_same,(Qb p _).tup (Ql upd_same)⟩
 .have g:=j.tup Z
  exists u,T,_,_,[.int k],rfl,rfl,g,R,fun X J=>?_
  have ec:X=false:=by cases X with | false=>rfl | true=>exact Y21 (J.mp rfl).2 (by simp)
  rw[ec]
  exists 4,iteF ?_
  exists 4,u,4,.inr g,rfl,4,ite2 (fun e=>Y21 e (by simp)) (fun _=>?_)
  exists 4,u,8,g,at1,4,r,4,.inl (Qg (sT _ _ I)),4,t,8,j.tup ht,at0,l,4,.inl (j.seq hl),Z1 2,fun B hB=>?_
  have N:=Qb hB (.lst [.int ((((qg a.length (0:Int)).map V.int).length:Nat):Int),.int (L.length:Int)])
  have G:upd H2 B (.lst [.int ((((qg a.length (0:Int)).map V.int).length:Nat):Int),.int (L.length:Int)]) B=some (.lst [.int ((((qg a.length (0:Int)).map V.int).length:Nat):Int),.int (L.length:Int)]):=upd_same
  generalize upd H2 B (.lst [.int ((((qg a.length (0:Int)).map V.int).length:Nat):Int),.int (L.length:Int)])=W at N G⊢
  have m:=j.trans N
  have d:=N.tup g
  exists 4,u,8,d,at0,rfl,.inr ⟨_,rfl,?_⟩
  rw[Y22 Dk]
  exists B,8,Qg G,at1,k,4,fun bb C=>⟨_,rfl,ite2 (fun y=>q.no (fun z=>?_) m) (fun y=>?_)⟩
  .rw[C.mpr ⟨z.1,by rw[lr];exact z.2⟩]at y;exact Y21 y Dc
  have U:bb=true:=by
   cases bb with
   |true=>rfl
   |false=>exact Y21 rfl y
  obtain⟨k0,k1⟩:=C.mp U
  obtain⟨tr,ak,hR,ap⟩:=Qaj (ae.imp fun _ _ z=>z.same m) k0 (by rw[<-lr];exact k1)
  exists 4,u,8,d,at0,rfl,4,ite2 (fun _=>?_) (fun e=>Y21 Dk e)
  exists 4,t,8,m.tup ht,at0,4,u,8,d,at1,l,8,m.seq hl,ak,q.yes ⟨k0,by rw[<-lr];exact k1⟩ m hR
 .have g:=j.tup Z
  exists u,T,_,_,[.int k],rfl,rfl,g,R,fun X J=>?_
  have ec:X=false:=by cases X with | false=>rfl | true=>exact Y21 (J.mp rfl).2 (by simp)
  rw[ec]
  exists 4,iteF ?_
  exists 4,u,4,.inr g,rfl,4,ite2 (fun e=>Y21 e (by simp)) (fun _=>?_)
  exists 4,u,8,g,at1,4,r,4,.inl (Qg (sT _ _ I)),4,t,8,j.tup ht,at0,l,4,.inl (j.seq hl),Z1 2,fun B hB=>?_
  have N:=Qb hB (.lst [.int ((((qg a.length (0:Int)).map V.int).length:Nat):Int),.int (L.length:Int)])
  have G:upd H2 B (.lst [.int ((((qg a.length (0:Int)).map V.int).length:Nat):Int),.int (L.length:Int)]) B=some (.lst [.int ((((qg a.length (0:Int)).map V.int).length:Nat):Int),.int (L.length:Int)]):=upd_same
  generalize upd H2 B (.lst [.int ((((qg a.length (0:Int)).map V.int).length:Nat):Int),.int (L.length:Int)])=W at N G⊢
  have m:=j.trans N
  have d:=N.tup g
  exists 4,u,8,d,at0,rfl,.inr ⟨_,rfl,?_⟩
  rw[Y20 Dk]
  exists B,8,Qg G,at0,k,4,fun bb C=>⟨_,rfl,ite2 (fun y=>q.no (fun z=>?_) m) (fun y=>?_)⟩
  .rw[C.mpr ⟨z.1,by rw[jQ,wQ];exact z.2⟩]at y;exact Y21 y Dc
  have U:bb=true:=by
   cases bb with
   |true=>rfl
   |false=>exact Y21 rfl y
  obtain⟨k0,k1⟩:=C.mp U
  exists 4,u,8,d,at0,rfl,4,ite2 (fun e=>Y21 e Dk) (fun _=>?_)
  exists 4,u,8,d,at0,rfl,4,ite2 (fun _=>?_) (fun e=>Y21 Dk e)
  have S:k.toNat<(qg a.length (0:Int)).length:=by rw[jQ]at k1;lia
  have ab:=N _ _ (sT _ _ I)
  exists 4,4,u,8,d,at1,r,_,_,k.toNat,rfl,rfl,ab,by rw[show k=((k.toNat:Nat):Int)by lia];exact Qaz (by rw[jQ];exact S),?_
  have h4:upd W r (.lst (((qg a.length (0:Int)).map V.int).set k.toNat (.int 1))) r=some (.lst (((qg a.length (0:Int)).set k.toNat 1).map V.int)):=by rw[upd_same,kZa]
  have s4:Same H (upd W r (.lst (((qg a.length (0:Int)).map V.int).set k.toNat (.int 1)))):=fun b o e=>by rw[Qn (Qk e gH)];exact m _ _ e
  exists 4,r,4,.inl ⟨Qg h4,fun l2 O=>⟨Z1 2,fun t2 p=>?_⟩⟩
  exact q.yes ⟨k0,by rw[wQ]at S;lia⟩ ((s4.trans (Qb O _)).trans (Qb p _)) ⟨l2,Ql upd_same,(Qb p _).tup (Ql upd_same)⟩
 .have g:=j.tup Z
  exists u,T,_,_,[.int k],rfl,rfl,g,R,fun X J=>?_
  have ec:X=false:=by cases X with | false=>rfl | true=>exact Y21 (J.mp rfl).2 (by simp)
  rw[ec]
  exists 4,iteF ?_
  exists 4,u,4,.inr g,rfl,4,ite2 (fun e=>Y21 e (by simp)) (fun _=>?_)
  exists 4,u,8,g,at1,4,r,4,.inl (Qg (sT _ _ I)),4,t,8,j.tup ht,at0,l,4,.inl (j.seq hl),Z1 2,fun B hB=>?_
  have N:=Qb hB (.lst [.int ((((qg a.length (0:Int)).map V.int).length:Nat):Int),.int (L.length:Int)])
  have G:upd H2 B (.lst [.int ((((qg a.length (0:Int)).map V.int).length:Nat):Int),.int (L.length:Int)]) B=some (.lst [.int ((((qg a.length (0:Int)).map V.int).length:Nat):Int),.int (L.length:Int)]):=upd_same
  generalize upd H2 B (.lst [.int ((((qg a.length (0:Int)).map V.int).length:Nat):Int),.int (L.length:Int)])=W at N G⊢
  have m:=j.trans N
  have d:=N.tup g
  exists 4,u,8,d,at0,rfl,.inr ⟨_,rfl,?_⟩
  rw[Y20 Dk]
  exists B,8,Qg G,at0,k,4,fun bb C=>⟨_,rfl,ite2 (fun y=>q.no (fun z=>?_) m) (fun y=>?_)⟩
  .rw[C.mpr ⟨z.1,by rw[jQ,wQ];exact z.2⟩]at y;exact Y21 y Dc
  have U:bb=true:=by
   cases bb with
   |true=>rfl
   |false=>exact Y21 rfl y
  obtain⟨k0,k1⟩:=C.mp U
  exists 4,u,8,d,at0,rfl,4,ite2 (fun e=>Y21 e Dk) (fun _=>?_)
  exists 4,u,8,d,at0,rfl,4,ite2 (fun e=>Y21 e Dk) (fun _=>?_)
  exists 4,u,8,d,at0,rfl,4,ite2 (fun _=>?_) (fun e=>Y21 Dk e)
  have S:k.toNat<(qg a.length (0:Int)).length:=by rw[jQ]at k1;lia
  have ab:=N _ _ (sT _ _ I)
  exists 4,4,4,u,8,d,at1,r,_,_,k.toNat,rfl,rfl,ab,by rw[show k=((k.toNat:Nat):Int)by lia];exact Qaz (by rw[jQ];exact S),?_
  have h4:upd W r (.lst (((qg a.length (0:Int)).map V.int).set k.toNat (.int (-1)))) r=some (.lst (((qg a.length (0:Int)).set k.toNat (-1)).map V.int)):=by rw[upd_same,kZa]
  have s4:Same H (upd W r (.lst (((qg a.length (0:Int)).map V.int).set k.toNat (.int (-1))))):=fun b o e=>by rw[Qn (Qk e gH)];exact m _ _ e
  exists 4,r,4,.inl ⟨Qg h4,fun l2 O=>⟨_,rfl,Z1 2,fun t2 p=>?_⟩⟩
  exact q.yes ⟨k0,by rw[wQ]at S;lia⟩ ((s4.trans (Qb O _)).trans (Qb p _)) ⟨l2,Ql upd_same,(Qb p _).tup (Ql upd_same)⟩
noncomputable instance instKeepsT (rs:List Row) (cs:List Int) (t:List Nat) (n:Nat):Decidable (Qct rs cs t n):=Classical.propDecidable _
inductive Qqh(K:Fg)(vs:List V)(H:Hp)(Q:VK)(E:XK):Prop|mk(t l:Addr)(rs:List (List Int×Int))(cs:List Int)(tt:List Nat)(_:vs=[.ref t,.ref l])(_:ProbAt K H t rs cs)(_:(∀r∈rs,r.1.length=cs.length))(_:SqL K H l ((tI tt).map V.int))(_:IsTurn cs.length tt)(_:cs.length<=20)(_:rs.length<=20)(_:AnsO K H Q (if Qct rs cs tt cs.length then some (Qcn tt)else none)):Qqh K vs H Q E
theorem turnK(T:IsTurn n t){k:Nat}(h:k<n):atI ((tI t).map V.int) ((k:Nat):Int)=some (.int ((t.getD k 0:Nat):Int)):=by
 obtain⟨e,_⟩:=getT T h
 exact Zy (by rw[jY,tI_get e];rfl)
theorem Qhs(T:IsTurn n t)(f:cs.length=n):(t.map fun k=>cs.getD k 0)=cs↔Qks cs t n:=by
 constructor
 .intro e i a
  obtain⟨b,_⟩:=getT T a
  have c:(t.map fun k=>cs.getD k 0)[i]?=cs[i]?:=by rw[e]
  rw[jY,b,gE (show i<cs.length by lia)]at c
  have d:cs.getD (t.getD i 0) 0=cs[i]:=Y5 c
  rw[d,jJ,gE (show i<cs.length by lia)];rfl
 .intro h
  refine jZd fun i=>?_
  by_cases a:i<n
  .obtain⟨b,_⟩:=getT T a
   rw[jY,b,gE (show i<cs.length by lia)]
   show some (cs.getD (t.getD i 0) 0)=_
   rw[<-h i a,jJ,gE (show i<cs.length by lia)];rfl
  .rw[wX (by rw[jQ,T.length];lia),wX Om]
theorem natsV{α:Type}{l:List α}(a:l.length=n)(d:α)(g:α->V):((List.range n).filter fun _=>true).map (fun i=>g (l.getD i d))=l.map g:=by
 rw[Qbj]
 refine jZd fun k=>?_
 rw[jY,jY]
 by_cases h:k<n
 .rw[jYa h,gE (show k<l.length by lia)]
  show some (g (l.getD k d))=some (g l[k])
  rw[jJ,gE (show k<l.length by lia)];rfl
 .rw[wX (by rw[xK];lia),wX Om];rfl
theorem Qcv{xs ys qx qy:List Row}(a:qx.Perm xs)(b:qy.Perm ys)(d:qx.Pairwise (fun x y=>Zt y x=false))(c:qy.Pairwise (fun x y=>Zt y x=false)):qx=qy↔xs.Perm ys :=
 ⟨fun e=>a.symm.trans (by rw[e];exact b),fun e=>Qai (a.trans (e.trans b.symm)) d c⟩
abbrev sLik:Stmt:=top 59
theorem scLik:FnScope ["_law_problem_here","_law_turn_here","_law_many","_law_rows","_law_numbers","_law_least","_law_moved","_law_k","_law_weight"] ["_law_problem_here","_law_turn_here"] (Qf sLik):=Sc
theorem okLik(F:Fn K mg "_law_like" sLik)(M:Mg mg):qC 1 "_law_like" ["_law_problem_here","_law_turn_here"] (Qqh K):=by
 refine Xd F scLik (a:=fun f a0 A aS s H vs Q E hr h=>?_)
 obtain⟨t,l,rs,d,m,rfl,⟨lP,c,vP,ht,aj,al,hc⟩,aF,B,T,hn,hm,q⟩:=h
 have Y:=Z6 6 hr.un
 refine⟨_,(Qe (Z4 2 scLik.nd (qL (Qo Qm (pv 0) Qd)))
  (Qe (Xe (PW.pt (Yv (Xq (Xj (Qi Xm rfl M.isinstance Qw (Qa (pv 1) (Qa (Jl M.list_ Yj) Qc))))) (Yh (Qq (Qkb (n:=6) Y) (Qi (Qas (K:=K) rfl) rfl M.sorted Jg (Qa (pv 1) Qc)) (Qz (Jw rfl) rfl M.list_ Yj (Qa (Qen M.range_ (Qa (pv 2) Qc)) Qc)) (Qt _))))) (Qh (Qp Xk)) Qr)
  (Qe (Z4 3 scLik.nd (Xp Qc))
  (Qe (Xy PassesOwn.never rfl (Xl (Qo Qm (pv 0) Qd)) (Yg (K:=K) (i:=4) (j:=5) rfl rfl scLik.nd rfl rfl rfl rfl) (Qe (Z4 6 scLik.nd (Qx Kq (Xp (Qa Qd Qc)) (pv 2)))
  (Qe (Xy PassesOwn.never rfl (Yi rfl M.range_ (Qa (pv 2) Qc)) (Z3 7 scLik.nd) (Qh (Zo (Qo Qm (pv 4) (pv 7)) (Kg (pv 6) (Qo ix_list (pv 1) (pv 7)) set_list))))
  (Qh (Zj (Wz Y1 Y2 Y3 Ye (pv 3) (Qa (Xh (Qa (Qz Xb rfl M.tuple_ Xo (Qa (pv 6) Qc)) (Qa (pv 5) Qc))) Qc)))))))
  (Qe (Xe (PW.pt (Yv (Qq (Qkb (n:=6) Y) (Qi (Jm (K:=K) rfl Y) rfl M.sorted Jg (Qa (pv 3) Qc)) (Qi (Jm (K:=K) rfl Y) rfl M.sorted Jg (Qa (Qo Qm (pv 0) Qd) Qc)) (Qt _)) (Yh (Qq (Qkb (n:=6) Y) (Zv ["_law_k","_law_problem_here"] [none,some 0] rfl (Xl (pv 1)) (fun _ _ _=>(Z3 0 (show(["_law_k","_law_problem_here"]:List Str).Nodup by decide +kernel))) (fun _ _ _=>Yf) (fun _ _ _=>(Qo (Zr (K:=K) rfl) (Qo (Zr (K:=K) rfl) (pv 1) Qd) (pv 0)))) (Qz Ym rfl M.list_ Yj (Qa (Qo Qm (pv 0) Qd) Qc)) (Qt _))))) (Qh (Qp Xk)) Qr)
  (Qe (Z4 4 scLik.nd (Qx Kq (Xp (Qa Qd Qc)) (pv 2)))
  (Qe (Z4 8 scLik.nd Qd)
  (Qe (Xy PassesOwn.never rfl (Wd rfl M.range_ (Qa (Qx Yr (pv 2) Qd) (Qa (Jr Zg Qd) (Qa (Jr Zg Qd) Qc)))) (Z3 7 scLik.nd) (Qe (Zo (Qx Yw (Qo ix_list (pv 4) (pv 7)) (pv 8)) (Kg (pv 4) (pv 7) set_list))
  (Qe (Zo (Qx Yr (Qo ix_list (pv 4) (Qo ix_list (pv 1) (pv 7))) (pv 8)) (Kg (pv 4) (Qo ix_list (pv 1) (pv 7)) set_list))
  (Qh (Z4 8 scLik.nd (Qx Yw (pv 8) (pv 8)))))))
  (Qh (Qp (Xh (Qa (Qz Xb rfl M.tuple_ Xo (Qa (pv 4) Qc)) (Qa Qd Qc))))))))))))),?_⟩
 exists"z"
 have lr:=Paired.length al
 have aR:(tI m).length=d.length:=by rw[Vn];exact T.length
 have lc:(d.map V.int).length=d.length:=jQ ..
 exists 4,t,8,ht,at1,c,4,.inr hc,?_
 exists 4,_,"list",true,rfl,.list,.inr ⟨⟨_,B⟩,rfl⟩,4,iteF ?_
 exists 4,l,tI m,rfl,B,Om,fun D1 qs aJ hq aL=>?_
 have s1:=Qb aJ (.lst (qs.map V.int))
 have h1:upd H D1 (.lst (qs.map V.int)) D1=some (.lst (qs.map V.int)):=upd_same
 generalize upd H D1 (.lst (qs.map V.int))=H1 at s1 h1⊢
 exists 4,4,fun r aV=>⟨r,_,rfl,upd_same,Om,Om,fun l2 ae=>?_⟩
 have s2:=(Qb aV (.rng 0 (((d.map V.int).length:Nat):Int))).trans (Qb ae (.lst ((List.range (Int.toNat (((d.map V.int).length:Nat):Int))).map fun i:Nat=>V.int (i:Int))))
 have h2:upd (upd H1 r (.rng 0 (((d.map V.int).length:Nat):Int))) l2 (.lst ((List.range (Int.toNat (((d.map V.int).length:Nat):Int))).map fun i:Nat=>V.int (i:Int))) l2=some (.lst (((List.range (Int.toNat (((d.map V.int).length:Nat):Int))).map fun i:Nat=>(i:Int)).map V.int)):=by rw[upd_same,kXb];rfl
 generalize upd (upd H1 r (.rng 0 (((d.map V.int).length:Nat):Int))) l2 (.lst ((List.range (Int.toNat (((d.map V.int).length:Nat):Int))).map fun i:Nat=>V.int (i:Int)))=H2 at s2 h2⊢
 exists D1,l2,7,lstD (Qg (s2 _ _ h1)),lstD (Qg h2),Qkc _ _,fun cc p=>⟨_,rfl,ite2 (fun y=>?_) (fun _=>?_)⟩
 .have e1:qs=Wk d.length:=(Qcm (fun k hk=>T.mem.mp hk) hq aL).mpr ⟨T.nodup,T.length⟩
  have:cc=true:=p.mpr (by rw[e1,lc];rfl)
  rw[this]at y;exact Y21 y Dc
 have ao:=s1.trans s2
 clear h1 h2
 exists Z1 0,fun R hR=>?_
 have s3:=Qb hR (.lst [])
 have h3:upd H2 R (.lst []) R=some (.lst []):=upd_same
 generalize upd H2 R (.lst [])=H3 at s3 h3⊢
 have ah:=ao.trans s3
 have RH:H R=none:=by
  cases e5:H R with
  |none=>rfl
  |some o=>rw[ao _ _ e5]at hR;cases hR
 let aT:Nat->St->Hp->Prop:=fun i L N=>∃(ws:List V) (v4 v5 v6 J:Option V),L=[some (.ref t),some (.ref l),some (.int (((d.map V.int).length:Nat):Int)),some (.ref R),v4,v5,v6,J,none]/\N R=some (.lst ws)/\RowsAre K N ws ((rs.take i).map (ledR m d.length))/\ws.length=i/\Same H N
 exists 4,t,8,ah.tup ht,at0,lP,rfl,⟨_,ah.seq aj⟩,Yq (K:=K) (a:=lP) (xs:=vP) aT ⟨[],none,none,none,none,rfl,h3,.nil,rfl,ah⟩ (fun i L N _ h=>?_) ?_ ?_
 .obtain⟨_,_,_,_,_,rfl,_,_,_,s4⟩:=h
  exact s4.seq aj
 .rintro i x L N e1 ⟨ws,v4,v5,v6,J,rfl,aa,C,az,s4⟩
  have hi:i<vP.length:=(jW.mp e1).1
  obtain⟨g,aC,tr,rfl,⟨pr,aD,aU⟩⟩:=L2.Xx al e1
  have aZ:=aF g (kX aC)
  exists tr,4,s4.tup aD,rfl,_,4,7,?_
  exists Z1 1,fun pA aX=>?_
  have aA:=Qb aX (.lst [.int 0])
  have bA:upd N pA (.lst [.int 0]) pA=some (.lst [.int 0]):=upd_same
  generalize upd N pA (.lst [.int 0])=YA at aA bA⊢
  exists 4,pA,(((d.map V.int).length:Nat):Int),4,rfl,bA,Om,Om,by show 1*((((d.map V.int).length:Nat):Int)).toNat<=sizeLine;lia,fun O ai=>?_
  rw[Quc]
  have dA:=aA.trans (Qb ai (.lst ((qg (d.map V.int).length (0:Int)).map V.int)))
  have eA:upd YA O (.lst ((qg (d.map V.int).length (0:Int)).map V.int)) O=some (.lst ((qg (d.map V.int).length (0:Int)).map V.int)):=upd_same
  have fA:N O=none:=by
   cases e5:N O with
   |none=>rfl
   |some o=>rw[aA _ _ e5]at ai;cases ai
  generalize upd YA O (.lst ((qg (d.map V.int).length (0:Int)).map V.int))=ZA at dA eA⊢
  have lA:qg (d.map V.int).length (0:Int)=put g.1 m 0:=by rw[lc,<-T.length];rfl
  rw[lA]at eA
  have sA:=s4.trans dA
  have aG:H O=none:=by
   cases e5:H O with
   |none=>rfl
   |some o=>rw[s4 _ _ e5]at fA;cases fA
  have gR:O≠R:=fun e=>by rw[e,aa]at fA;cases fA
  exists 4,4,Om,Om,Jf (lo:=0) (n:=Int.toNat (((d.map V.int).length:Nat):Int)) (fun j L X=>∃(J:Option V),L=[some (.ref t),some (.ref l),some (.int (((d.map V.int).length:Nat):Int)),some (.ref R),some (.ref pr),some (.int g.2),some (.ref O),J,none]/\X O=some (.lst ((put g.1 m j).map V.int))/\X R=some (.lst ws)/\RowsAre K X ws ((rs.take i).map (ledR m d.length))/\Same H X) ⟨J,rfl,eA,dA _ _ aa,C.imp fun _ _ z=>z.same dA,sA⟩ ?_ ?_
  .rintro j L X hj ⟨J,rfl,W,ad,S,Z⟩
   have au:j<d.length:=by rw[lc]at hj;lia
   have ej:(0:Int)+(j:Int)=((j:Nat):Int):=Om
   rw[ej]
   have ey:=atN (ns:=g.1) (i:=j) Om
   have em:=turnK T au
   obtain⟨ek,av⟩:=getT T au
   have ex:g.1[j]?=some (g.1.getD j 0):=by rw[jJ,gE (show j<g.1.length by lia)];rfl
   exists 4,4,pr,8,Z.tup aU,ey,4,4,4,l,8,Z.seq B,em,O,8,W,Qaz (by rw[jQ,Qaa,T.length];exact av),?_
   exists 4,by rw[upd_same,Qkd ex ek,kZa],by rw[Qn gR.symm];exact ad,S.imp fun _ _ z=>z.upd W,fun b o e=>?_
   rw[Qn (Qk e aG)];exact Z _ _ e
  .rintro L X ⟨J,rfl,W,ad,S,Z⟩
   rw[show Int.toNat (((d.map V.int).length:Nat):Int)=d.length by rw[lc];rfl]at W
   exists 4,.inl ⟨rfl,_,Qg ad⟩,4,O,4,.inl ⟨Qg W,fun l3 aE=>⟨_,rfl,Z1 2,fun t3 aq=>?_⟩⟩
   have G:=(Qb aE (.tup ((put g.1 m d.length).map V.int))).trans (Qb aq (.tup [.ref l3,.int g.2]))
   have h6:RowAt K (upd (upd X l3 (.tup ((put g.1 m d.length).map V.int))) t3 (.tup [.ref l3,.int g.2])) t3 (ledR m d.length g):=⟨l3,Ql upd_same,(Qb aq _).tup (Ql upd_same)⟩
   generalize upd (upd X l3 (.tup ((put g.1 m d.length).map V.int))) t3 (.tup [.ref l3,.int g.2])=H6 at G h6⊢
   have ak:=G _ _ ad
   exists R,7,ak,Om,ws++[.ref t3],_,_,_,4,upd_same,?_,by rw[yQ,az];rfl,fun b o e=>?_
   .rw[Zw aC,kK]
    exact RowsAre.snoc (S.imp fun _ _ z=>(z.same G).upd ak) (RowAt.upd ak h6)
   .rw[Qn (Qk e RH)];exact G _ _ (Z _ _ e)
 rintro L N ⟨ws,v4,v5,v6,J,rfl,aa,C,az,s4⟩
 rw[yW Om]at C
 exists 4,R,ws,4,Qg aa,C,Om,fun D4 w4 q4 aK aW a1 aw an=>?_
 have a5:=Qb aK (.lst w4)
 have h5:upd N D4 (.lst w4) D4=some (.lst w4):=upd_same
 generalize upd N D4 (.lst w4)=X at a5 h5⊢
 have Z:=s4.trans a5
 exists 4,t,8,Z.tup ht,at0,lP,vP,rs,rfl,Z.seq aj,al.imp fun _ _ z=>z.same Z,Om,fun D6 w6 q6 aQ aM a2 ap ay=>?_
 have a6:=Qb aQ (.lst w6)
 have h6:upd X D6 (.lst w6) D6=some (.lst w6):=upd_same
 generalize upd X D6 (.lst w6)=H6 at a6 h6⊢
 have G:=Z.trans a6
 exists D4,D6,7,RowsAre.hasD (Qg (a6 _ _ h5)) (aW.imp fun _ _ z=>z.same (a5.trans a6)),RowsAre.hasD (Qg h6) (aM.imp fun _ _ z=>z.same a6),Qgx _ _,fun cc p=>⟨_,rfl,ite2 (fun y=>iteT (q.no (fun z=>?_) G)) (fun y=>?_)⟩
 .rw[p.mpr (by rw[(Qcv aw ap an ay).mpr z.2])]at y;exact Y21 y Dc
 have aP:(rs.map (ledR m d.length)).Perm rs:=(Qcv aw ap an ay).mp (rowsD_inj.mp (p.mp (by
  cases cc with
  |true=>rfl
  |false=>exact Y21 rfl y)))
 exists 4,l,rfl,⟨_,G.seq B⟩,fun D hD=>?_
 refine Qfo (n:=d.length) (fun τ=>∃v:Option V,τ=[v,some (.ref t)]) (fun _=>true) (fun i=>V.int (d.getD (m.getD i 0) 0)) hD Om ⟨none,rfl⟩ (fun i H7 hi s7=>⟨_,.int (tI m)[i],(G.trans s7).seq B,by rw[jY,gE (show i<(tI m).length by lia)];rfl⟩) (fun H7 s7=>⟨_,(G.trans s7).seq B,by rw[jQ,aR];exact jZ _⟩) ?_ (fun H7 s7 hE=>?_)
 .rintro i τ H7 x H9 hi ⟨v,rfl⟩ s7 ⟨rfl,e1⟩ P1 P2 h1 h2
  obtain⟨z,ez,rfl⟩:=Xu (e1 _ ((G.trans s7).seq B))
  obtain⟨k,ek,rfl⟩:=Qwt ez
  have hk:=T.lt ek
  have:=h1 rfl [some (.int ((k:Nat):Int)),some (.ref t)] _ ⟨_,rfl⟩ (Same.refl _)
  rw[Qkt ek]at this
  exists 4,t,8,(G.trans s7).tup ht,at1,4,c,8,(G.trans s7).tup hc,atN Om,this
 rw[natsV (l:=m) T.length 0 fun k=>V.int (d.getD k 0)]at hE
 rw[show(m.map fun k=>V.int (d.getD k 0))=(m.map fun k=>d.getD k 0).map V.int by rw[kXb];rfl]at hE
 have am:=G.trans s7
 exists 4,t,8,am.tup ht,at1,c,4,.inr (am.tup hc),fun l8 aH=>?_
 have a8:=Qb aH (.lst (d.map V.int))
 have h8:upd H7 l8 (.lst (d.map V.int)) l8=some (.lst (d.map V.int)):=upd_same
 generalize upd H7 l8 (.lst (d.map V.int))=H8 at a8 h8⊢
 have s8:=am.trans a8
 exists D,l8,7,lstD (Qg (a8 _ _ hE)),lstD (Qg h8),Qkc _ _,fun cc p=>⟨_,rfl,ite2 (fun y=>q.no (fun z=>?_) s8) (fun y=>?_)⟩
 .rw[p.mpr (by rw[(Qhs T rfl).mpr z.1])]at y;exact Y21 y Dc
 have aO:Qct rs d m d.length:=⟨(Qhs T rfl).mp (by
  have h1:=p.mp (by
   cases cc with
   |true=>rfl
   |false=>exact Y21 rfl y)
  injection h1 with h1
  exact(List.map_inj_right (fun _ _ h=>by injection h)).mp h1),aP⟩
 exists Z1 1,fun pB aN=>?_
 have aB:=Qb aN (.lst [.int 0])
 have bB:upd H8 pB (.lst [.int 0]) pB=some (.lst [.int 0]):=upd_same
 generalize upd H8 pB (.lst [.int 0])=YB at aB bB⊢
 exists 4,pB,(((d.map V.int).length:Nat):Int),4,rfl,bB,Om,Om,by show 1*((((d.map V.int).length:Nat):Int)).toNat<=sizeLine;lia,fun u ag=>?_
 rw[Quc]
 have dB:=aB.trans (Qb ag (.lst ((qg (d.map V.int).length (0:Int)).map V.int)))
 have eB:upd YB u (.lst ((qg (d.map V.int).length (0:Int)).map V.int)) u=some (.lst ((qg (d.map V.int).length (0:Int)).map V.int)):=upd_same
 have fB:H8 u=none:=by
  cases e5:H8 u with
  |none=>rfl
  |some o=>rw[aB _ _ e5]at ag;cases ag
 generalize upd YB u (.lst ((qg (d.map V.int).length (0:Int)).map V.int))=ZB at dB eB⊢
 have lB:qg (d.map V.int).length (0:Int)=(Jo m 0).1:=by rw[lc,<-T.length];rfl
 rw[lB]at eB
 have sB:=s8.trans dB
 have ar:H u=none:=by
  cases e5:H u with
  |none=>rfl
  |some o=>rw[s8 _ _ e5]at fB;cases fB
 exists 4,7,4,4,?_
 rw[lc]
 exists _,_,4,⟨Dc,Dc,Wi Om⟩,Vb (lo:=(d.length:Int)-1) (c:=-1) (n:=(Builtin.Range.rangeSize ((d.length:Int)-1) (-1) (-1)).toNat) (fun i L H9=>∃(J:Option V),L=[some (.ref t),some (.ref l),some (.int (d.length:Int)),some (.ref R),some (.ref u),v5,v6,J,some (.int (Jo m i).2)]/\H9 u=some (.lst ((Jo m i).1.map V.int))/\Same H H9) ⟨J,rfl,eB,sB⟩ ?_ ?_
 .rintro i L H9 hi ⟨J,rfl,I,s9⟩
  rw[Zk]at hi
  have ec:(d.length:Int)-1+((i:Nat):Int)*(-1)=((d.length-1-i:Nat):Int):=Om
  rw[ec]
  have p:d.length-1-i<d.length:=Om
  have af:=Qah m i
  rw[T.length]at af
  have ab:=Vu m i
  rw[T.length]at ab
  generalize Jo m i=LT at I af ab⊢
  rw[ab]
  clear ab
  generalize d.length-1-i=k at p⊢
  have ey:=atN (ns:=LT.1) (i:=k) Om
  have em:=turnK T p
  obtain⟨_,av⟩:=getT T p
  exists 4,4,u,8,Qg I,ey,4,7,4,4,u,_,_,k,rfl,rfl,I,Qaz (by rw[jQ];lia),?_
  have U:upd H9 u (.lst ((LT.1.map V.int).set k (.int (LT.1.getD k 0+LT.2)))) u=some (.lst ((LT.1.set k (LT.1.getD k 0+LT.2)).map V.int)):=by rw[upd_same,kZa]
  have ac:Same H (upd H9 u (.lst ((LT.1.map V.int).set k (.int (LT.1.getD k 0+LT.2))))):=fun b o e=>by rw[Qn (Qk e ar)];exact s9 _ _ e
  generalize upd H9 u (.lst ((LT.1.map V.int).set k (.int (LT.1.getD k 0+LT.2))))=H10 at U ac⊢
  have aY:(LT.1.set k (LT.1.getD k 0+LT.2)).length=d.length:=by rw[wW];exact af
  have aI:=atN (ns:=LT.1.set k (LT.1.getD k 0+LT.2)) (i:=m.getD k 0) Om
  exists 4,4,4,l,8,ac.seq B,em,u,8,Qg U,aI,4,7,4,4,4,l,8,ac.seq B,em,u,_,_,m.getD k 0,rfl,rfl,U,Qaz (by rw[jQ];lia),?_
  exists 4,4,7,some (.int ((k:Nat):Int)),?_,?_,fun b o e=>?_
  .have e2:LT.2+LT.2=LT.2*2:=Om
   exact congrArg (fun z=>[some (V.ref t),some (V.ref l),some (V.int (d.length:Int)),some (V.ref R),some (V.ref u),v5,v6,some (V.int ((k:Nat):Int)),some (V.int z)]) e2
  .rw[upd_same,<-kZa];rfl
  .rw[Qn (Qk e ar)];exact ac _ _ e
 .rintro L H9 ⟨J,rfl,I,s9⟩
  rw[Zk]at I
  exists 4,u,4,.inl ⟨Qg I,fun l2 ae=>⟨Z1 2,fun t2 ax=>?_⟩⟩
  refine q.yes aO ((s9.trans (Qb ae _)).trans (Qb ax _)) ⟨l2,Ql upd_same,(Qb ax _).tup (Ql ?_)⟩
  rw[upd_same]
  show _=some (HO.tup ((Jo m m.length).1.map V.int))
  rw[T.length]
inductive DL where
 |giv (k:Int)
 |low (k:Int)
 |high (k:Int)
 |bet
 |sm (ps:List (Int×Int))
 |shr (o b:Int)
 |sht (o:Int) (hs:List (Int×Int))
 |eit (o p c:Int)
 |lik (t:List Nat)
def DLAt(K:Fg)(H:Hp)(u:Addr):DL->Prop
 |.giv k=>SqT K H u [.str "given",.int k]
 |.low k=>SqT K H u [.str "low",.int k]
 |.high k=>SqT K H u [.str "high",.int k]
 |.bet=>SqT K H u [.str "better"]
 |.sm ps=>∃l,SqT K H u [.str "sum",.ref l]/\HoldsAt K H l ps
 |.shr o b=>SqT K H u [.str "share",.int o,.int b]
 |.sht o hs=>∃l,SqT K H u [.str "shut",.int o,.ref l]/\HoldsAt K H l hs
 |.eit o p c=>SqT K H u [.str "either",.int o,.int p,.int c]
 |.lik t=>∃l,SqT K H u [.str "like",.ref l]/\SqL K H l ((tI t).map V.int)
def DL.names:DL->List Int
 |.sm ps=>ps.map (·.1)
 |.shr o _=>[o]
 |.sht o _=>[o]
 |.eit o p _=>[o,p]
 |_=>[]
def NB(k:Int):Prop:=0<=k/\k<1000000
def DLok(n:Nat):DL->Prop
 |.giv k=>NB k
 |.low k=>NB k
 |.high k=>NB k
 |.bet=>True
 |.sm ps=>ps.length<=10/\∀p∈ps,NB p.1/\0<=p.2/\p.2<=3
 |.shr o b=>NB o/\1<=b/\b<=3
 |.sht o hs=>NB o/\Good n hs
 |.eit o p c=>NB o/\NB p/\NB c
 |.lik t=>IsTurn n t
theorem DLAt.same{u:Addr}{ln:DL}(h:DLAt K H u ln)(s:Same H H'):DLAt K H' u ln:=by
 cases ln with
 |sm ps=>obtain⟨l,a,d⟩:=h;exists l,s.tup a,d.same s
 |sht o hs=>obtain⟨l,a,d⟩:=h;exists l,s.tup a,d.same s
 |lik ts=>obtain⟨l,a,d⟩:=h;exists l,s.tup a,s.seq d
 |giv k=>exact s.tup h
 |low k=>exact s.tup h
 |high k=>exact s.tup h
 |bet=>exact s.tup h
 |shr o b=>exact s.tup h
 |eit o p c=>exact s.tup h
def Cin(n:Nat)(c:Int):Prop:=0<=c/\c<((n:Nat):Int)
noncomputable instance (n:Nat) (c:Int):Decidable (Cin n c):=inferInstanceAs (Decidable (_/\_))
def shrR(r:Rw)(b:Int):Option Rw:=if divides r b=true then some (Vc r b)else none
def shtR(n:Nat)(r:Rw)(hs:List (Int×Int)):Option Rw:=if Wn r hs<r.2 then some (Jp n hs)else none
def eitR(r1 r2:Rw)(c:Nat):Option Rw:=if Xf r1.1 c=Xf r2.1 c then some (Js r1 r2 c)else none
def rowL(rs:List Rw)(cs:List Int)(best:Option Int)(hd:List Rw):DL->Option Rw
 |.giv k=>if InH rs k then some (rowK rs k.toNat)else none
 |.low k=>if 0<=k/\k<(cs.length:Int)then some (Ya cs.length k.toNat 1 0)else none
 |.high k=>if 0<=k/\k<(cs.length:Int)then some (Ya cs.length k.toNat (-1) (-1))else none
 |.bet=>best.map (Ku cs)
 |.sm ps=>if Qdj hd ps then some (Yl cs.length (pI hd ps))else none
 |.shr o b=>if InH hd o then shrR (rowK hd o.toNat) b else none
 |.sht o hs=>if InH hd o then shtR cs.length (rowK hd o.toNat) hs else none
 |.eit o p c=>if InH hd o/\InH hd p/\Cin cs.length c then eitR (rowK hd o.toNat) (rowK hd p.toNat) c.toNat else none
 |.lik t=>if Qct rs cs t cs.length then some (Qcn t)else none
def dlD:DL->Dt
 |.giv k=>.tup [.str "given",.int k]
 |.low k=>.tup [.str "low",.int k]
 |.high k=>.tup [.str "high",.int k]
 |.bet=>.tup [.str "better"]
 |.sm ps=>.tup [.str "sum",.lst (ps.map Kv)]
 |.shr o b=>.tup [.str "share",.int o,.int b]
 |.sht o hs=>.tup [.str "shut",.int o,.lst (hs.map Kv)]
 |.eit o p c=>.tup [.str "either",.int o,.int p,.int c]
 |.lik t=>.tup [.str "like",.lst ((tI t).map .int)]
inductive Qjh(K:Fg)(vs:List V)(H:Hp)(Q:VK)(E:XK):Prop|mk(t h u:Addr)(rs hd:List (List Int×Int))(cs:List Int)(best:Option Int)(ws:List V)(ln:DL)(_:vs=[.ref t,Vk best,.ref h,.ref u])(_:ProbAt K H t rs cs)(_:(∀r∈rs,r.1.length=cs.length))(_:SqL K H h ws)(_:RowsAre K H ws hd)(_:hd.length<=2000)(_:(∀r∈hd,r.1.length=cs.length))(_:DLAt K H u ln)(_:DLok cs.length ln)(_:cs.length<=20)(_:rs.length<=20)(_:AnsO K H Q (rowL rs cs best hd ln)):Qjh K vs H Q E
abbrev Qht:Stmt:=top 60
theorem Qxk:FnScope ["_law_problem_here","_law_best","_law_heard","_law_line"] ["_law_problem_here","_law_best","_law_heard","_law_line"] (Qf Qht):=Sc
theorem Qxl(F:Fn K mg "_law_row" Qht)(M:Mg mg)(B:qC 2 "_law_simple" ["_law_problem_here","_law_best","_law_line"] (Qqg K))(x:qC 2 "_law_summed" ["_law_problem_here","_law_heard","_law_parts"] (Qqf K))(W:qC 1 "_law_like" ["_law_problem_here","_law_turn_here"] (Qqh K))(v:qC 1 "_law_is" ["_law_thing","_law_most_here"] (Qhr))(C:qC 1 "_law_shared" ["_law_row_here","_law_by"] (spShr K))(U:qC 2 "_law_shut" ["_law_row_here","_law_holds_here"] (spSht K))(D:qC 1 "_law_either" ["_law_one","_law_other","_law_at"] (spEit K)):qC 3 "_law_row" ["_law_problem_here","_law_best","_law_heard","_law_line"] (Qjh K):=by
 refine Xd F Qxk (fun _ _ _ _ _ _=>Qba (fun _ _ _ _=>rfl)) (fun vs H Q E h=>?_) (fun f am A ah s H vs Q E Y h=>?_)
 .obtain⟨t,h,u,Z,r,G,i,ws,ln,rfl,_⟩:=h
  rfl
 obtain⟨t,h,u,Z,r,G,i,ws,ln,rfl,hP,N,hw,J,af,O,j,L,hn,hm,q⟩:=h
 have g:=Z6 1 Y.un
 refine⟨_,(Qe (Xe (PW.pt (Yv (Xq (Xj (Qi Xm rfl M.isinstance Qw (Qa (pv 3) (Qa (Jl M.tuple_ Xo) Qc))))) (Yh (Qq Xz (qL (pv 3)) Qd (Qt _))))) (Qh (Qp Xk)) Qr)
  (Qe (Xe (Qq Vx (Qo Qm (pv 3) Qd) (Xh (Qa Xi (Qa Xi (Qa Xi (Qa Xi Qc))))) rfl) (Qh (Qp (Xc B (Y.mono Dc) (Qa (pv 0) (Qa (pv 1) (Qa (pv 3) Qc)))))) Qr)
  (Qe (Xe (PW.pt (Kn (Qq Xz (Qo Qm (pv 3) Qd) Xi (Qt _)) (Ju (Qq Xz (qL (pv 3)) Qd (Qt _))))) (Qh (Qp (Xc x (Y.mono Dc) (Qa (pv 0) (Qa (pv 2) (Qa (Qo Qm (pv 3) Qd) Qc)))))) Qr)
  (Qe (Xe (PW.pt (Kn (Qq Xz (Qo Qm (pv 3) Qd) Xi (Qt _)) (Ju (Qq Xz (qL (pv 3)) Qd (Qt _))))) (Qh (Qp (Xc W (Y.mono Dc) (Qa (pv 0) (Qa (Qo Qm (pv 3) Qd) Qc))))) Qr)
  (Qe (Xe (PW.pt (Yv (Qq Qeg (qL (pv 3)) Qd (Qt _)) (Yh (Xq (Xj (Xc v (Y.mono Dc) (Qa (Qo Qm (pv 3) Qd) (Qa (qL (pv 2)) Qc)))))))) (Qh (Qp Xk)) Qr)
  (Qe (Xe (PW.pt (Kn (Qq Xz (Qo Qm (pv 3) Qd) Xi (Qt _)) (Ju (Qq Xz (qL (pv 3)) Qd (Qt _))))) (Qh (Qp (Xc C (Y.mono Dc) (Qa (Qo ix_list (pv 2) (Qo Qm (pv 3) Qd)) (Qa (Qo Qm (pv 3) Qd) Qc))))) Qr)
  (Qe (Xe (PW.pt (Kn (Qq Xz (Qo Qm (pv 3) Qd) Xi (Qt _)) (Ju (Qq Xz (qL (pv 3)) Qd (Qt _))))) (Qh (Qp (Xc U (Y.mono Dc) (Qa (Qo ix_list (pv 2) (Qo Qm (pv 3) Qd)) (Qa (Qo Qm (pv 3) Qd) Qc))))) Qr)
  (Qe (Xe (PW.pt (Kn (Qq Xz (Qo Qm (pv 3) Qd) Xi (Qt _)) (Kn (Qq Xz (qL (pv 3)) Qd (Qt _)) (Kn (Xj (Xc v (Y.mono Dc) (Qa (Qo Qm (pv 3) Qd) (Qa (qL (pv 2)) Qc)))) (Ju (Xj (Xc v (Y.mono Dc) (Qa (Qo Qm (pv 3) Qd) (Qa (qL (Qo Qm (pv 0) Qd)) Qc))))))))) (Qh (Qp (Xc D (Y.mono Dc) (Qa (Qo ix_list (pv 2) (Qo Qm (pv 3) Qd)) (Qa (Qo ix_list (pv 2) (Qo Qm (pv 3) Qd)) (Qa (Qo Qm (pv 3) Qd) Qc)))))) Qr)
  (Qh (Qp Xk)))))))))),?_⟩
 refine Qta ?_;intros
 obtain⟨lP,cP,vP,p1,p2,p3,p4⟩:=id hP
 have lw:=Paired.length J
 cases ln with
 |giv k=>
  have g:SqT K H u _:=j
  exists 4,_,"tuple",true,rfl,.tuple,.inl ⟨⟨_,g⟩,rfl⟩,4,iteF ⟨_,rfl,u,_,rfl,.inr g,rfl,_,rfl,iteF ?_⟩
  exists 4,u,8,g,at0,Z1 4,fun T m=>?_
  have d:=Qb m (.tup [.str "given",.str "low",.str "high",.str "better"])
  exists T,4,.inr (Ql upd_same),rfl,rfl,4,ite2 (fun _=>?_) (fun e=>Y21 Dk e)
  exists 4,4,4,t,u,Z,G,i,4,ProbAt.same d hP,N,.inr ⟨k,.inl ⟨d.tup g,rfl⟩⟩,Om,Om,q.later d
 |low k=>
  have g:SqT K H u _:=j
  exists 4,_,"tuple",true,rfl,.tuple,.inl ⟨⟨_,g⟩,rfl⟩,4,iteF ⟨_,rfl,u,_,rfl,.inr g,rfl,_,rfl,iteF ?_⟩
  exists 4,u,8,g,at0,Z1 4,fun T m=>?_
  have d:=Qb m (.tup [.str "given",.str "low",.str "high",.str "better"])
  exists T,4,.inr (Ql upd_same),rfl,rfl,4,ite2 (fun _=>?_) (fun e=>Y21 Dk e)
  exists 4,4,4,t,u,Z,G,i,4,ProbAt.same d hP,N,.inr ⟨k,.inr (.inl ⟨d.tup g,rfl⟩)⟩,Om,Om,q.later d
 |high k=>
  have g:SqT K H u _:=j
  exists 4,_,"tuple",true,rfl,.tuple,.inl ⟨⟨_,g⟩,rfl⟩,4,iteF ⟨_,rfl,u,_,rfl,.inr g,rfl,_,rfl,iteF ?_⟩
  exists 4,u,8,g,at0,Z1 4,fun T m=>?_
  have d:=Qb m (.tup [.str "given",.str "low",.str "high",.str "better"])
  exists T,4,.inr (Ql upd_same),rfl,rfl,4,ite2 (fun _=>?_) (fun e=>Y21 Dk e)
  exists 4,4,4,t,u,Z,G,i,4,ProbAt.same d hP,N,.inr ⟨k,.inr (.inr ⟨d.tup g,rfl⟩)⟩,Om,Om,q.later d
 |bet=>
  have g:SqT K H u _:=j
  exists 4,_,"tuple",true,rfl,.tuple,.inl ⟨⟨_,g⟩,rfl⟩,4,iteF ⟨_,rfl,u,_,rfl,.inr g,rfl,_,rfl,iteF ?_⟩
  exists 4,u,8,g,at10,Z1 4,fun T m=>?_
  have d:=Qb m (.tup [.str "given",.str "low",.str "high",.str "better"])
  exists T,4,.inr (Ql upd_same),rfl,rfl,4,ite2 (fun _=>?_) (fun e=>Y21 Dk e)
  exists 4,4,4,t,u,Z,G,i,4,ProbAt.same d hP,N,.inl ⟨d.tup g,rfl⟩,Om,Om,q.later d
 |sm ps=>
  obtain⟨l,g,hl⟩:=id j
  exists 4,_,"tuple",true,rfl,.tuple,.inl ⟨⟨_,g⟩,rfl⟩,4,iteF ⟨_,rfl,u,_,rfl,.inr g,rfl,_,rfl,iteF ?_⟩
  exists 4,u,8,g,at0,Z1 4,fun T m=>?_
  have d:=Qb m (.tup [.str "given",.str "low",.str "high",.str "better"])
  exists T,4,.inr (Ql upd_same),rfl,rfl,4,ite2 (fun e=>Y21 e Dk) (fun _=>?_)
  generalize upd H T (.tup [.str "given",.str "low",.str "high",.str "better"])=H1 at d⊢
  have a:=d.tup g
  exists 4,u,8,a,at0,rfl,4,ite2 (fun _=>?_) (fun e=>Y21 Dk e)
  exists 4,u,4,.inr a,rfl,4,ite2 (fun _=>?_) (fun e=>Y21 (by simp) e)
  exists 4,4,4,u,8,a,at1,t,h,l,Z,r,G,ws,ps,rfl,ProbAt.same d hP,d.seq hw,J.imp fun _ _ z=>z.same d,O,af,hl.same d,fun p hp=>(L.2 p hp).2,Om,q.later d
 |lik tt=>
  obtain⟨l,g,hl⟩:=id j
  exists 4,_,"tuple",true,rfl,.tuple,.inl ⟨⟨_,g⟩,rfl⟩,4,iteF ⟨_,rfl,u,_,rfl,.inr g,rfl,_,rfl,iteF ?_⟩
  exists 4,u,8,g,at0,Z1 4,fun T m=>?_
  have d:=Qb m (.tup [.str "given",.str "low",.str "high",.str "better"])
  exists T,4,.inr (Ql upd_same),rfl,rfl,4,ite2 (fun e=>Y21 e Dk) (fun _=>?_)
  generalize upd H T (.tup [.str "given",.str "low",.str "high",.str "better"])=H1 at d⊢
  have a:=d.tup g
  exists 4,u,8,a,at0,rfl,4,ite2 (fun e=>Y21 e Dk) (fun _=>iteF ?_)
  exists 4,u,8,a,at0,rfl,4,ite2 (fun _=>?_) (fun e=>Y21 Dk e)
  exists 4,u,4,.inr a,rfl,4,ite2 (fun _=>?_) (fun e=>Y21 (by simp) e)
  exists 4,4,u,8,a,at1,t,l,Z,G,tt,rfl,ProbAt.same d hP,N,d.seq hl,L,hn,hm,q.later d
 |shr o b=>
  have g:SqT K H u _:=j
  exists 4,_,"tuple",true,rfl,.tuple,.inl ⟨⟨_,g⟩,rfl⟩,4,iteF ⟨_,rfl,u,_,rfl,.inr g,rfl,_,rfl,iteF ?_⟩
  exists 4,u,8,g,at30,Z1 4,fun T m=>?_
  have d:=Qb m (.tup [.str "given",.str "low",.str "high",.str "better"])
  exists T,4,.inr (Ql upd_same),rfl,rfl,4,ite2 (fun e=>Y21 e Dk) (fun _=>?_)
  generalize upd H T (.tup [.str "given",.str "low",.str "high",.str "better"])=H1 at d⊢
  have a:=d.tup g
  exists 4,u,8,a,at30,rfl,4,ite2 (fun e=>Y21 e Dk) (fun _=>iteF ?_)
  exists 4,u,8,a,at30,rfl,4,ite2 (fun e=>Y21 e Dk) (fun _=>iteF ?_)
  exists 4,u,4,.inr a,7,4,ite2 (fun e=>Y21 e (by simp)) (fun _=>?_)
  exists 4,u,8,a,at31,4,h,4,.inl (d.seq hw),o,4,fun bb n=>⟨_,rfl,ite2 (fun y=>?_) (fun y=>?_)⟩
  .refine q.1 (Y20 fun z=>?_) _ d
   have z':InH r o:=z
   rw[n.mpr ⟨z'.1,by rw[lw];exact z'.2⟩]at y;exact Y21 y Dc
  have V:bb=true:=by
   cases bb with
   |true=>rfl
   |false=>exact Y21 rfl y
  obtain⟨o0,S⟩:=n.mp V
  rw[lw]at S
  obtain⟨tr,X,hR,R⟩:=Qaj (J.imp fun _ _ z=>z.same d) o0 S
  have I:=O _ R
  have q2:AnsO K H Q (shrR (rowK r o.toNat) b):=by
   have e:rowL Z G i r (.shr o b)=shrR (rowK r o.toNat) b:=Y22 ⟨o0,S⟩
   rw[e]at q;exact q
  exists 4,u,8,a,at30,rfl,4,ite2 (fun _=>?_) (fun e=>Y21 Dk e)
  exists 4,u,4,.inr a,rfl,4,ite2 (fun _=>?_) (fun e=>Y21 (by simp) e)
  exists 4,4,u,8,a,at31,h,8,d.seq hw,X,4,u,8,a,at32,tr,_,b,rfl,hR,L.2.1,L.2.2,Om,q2.later d
 |sht o hs=>
  obtain⟨l,g,hl⟩:=id j
  exists 4,_,"tuple",true,rfl,.tuple,.inl ⟨⟨_,g⟩,rfl⟩,4,iteF ⟨_,rfl,u,_,rfl,.inr g,rfl,_,rfl,iteF ?_⟩
  exists 4,u,8,g,at30,Z1 4,fun T m=>?_
  have d:=Qb m (.tup [.str "given",.str "low",.str "high",.str "better"])
  exists T,4,.inr (Ql upd_same),rfl,rfl,4,ite2 (fun e=>Y21 e Dk) (fun _=>?_)
  generalize upd H T (.tup [.str "given",.str "low",.str "high",.str "better"])=H1 at d⊢
  have a:=d.tup g
  exists 4,u,8,a,at30,rfl,4,ite2 (fun e=>Y21 e Dk) (fun _=>iteF ?_)
  exists 4,u,8,a,at30,rfl,4,ite2 (fun e=>Y21 e Dk) (fun _=>iteF ?_)
  exists 4,u,4,.inr a,7,4,ite2 (fun e=>Y21 e (by simp)) (fun _=>?_)
  exists 4,u,8,a,at31,4,h,4,.inl (d.seq hw),o,4,fun bb n=>⟨_,rfl,ite2 (fun y=>?_) (fun y=>?_)⟩
  .refine q.1 (Y20 fun z=>?_) _ d
   have z':InH r o:=z
   rw[n.mpr ⟨z'.1,by rw[lw];exact z'.2⟩]at y;exact Y21 y Dc
  have V:bb=true:=by
   cases bb with
   |true=>rfl
   |false=>exact Y21 rfl y
  obtain⟨o0,S⟩:=n.mp V
  rw[lw]at S
  obtain⟨tr,X,hR,R⟩:=Qaj (J.imp fun _ _ z=>z.same d) o0 S
  have I:=O _ R
  have q2:AnsO K H Q (shtR G.length (rowK r o.toNat) hs):=by
   have e:rowL Z G i r (.sht o hs)=shtR G.length (rowK r o.toNat) hs:=Y22 ⟨o0,S⟩
   rw[e]at q;exact q
  have al:=Qbl L.2
  exists 4,u,8,a,at30,rfl,4,ite2 (fun e=>Y21 e Dk) (fun _=>iteF ?_)
  exists 4,u,8,a,at30,rfl,4,ite2 (fun _=>?_) (fun e=>Y21 Dk e)
  exists 4,u,4,.inr a,rfl,4,ite2 (fun _=>?_) (fun e=>Y21 (by simp) e)
  exists 4,4,u,8,a,at31,h,8,d.seq hw,X,4,u,8,a,at32,tr,l,_,hs,G.length,rfl,hR,hl.same d,I,L.2,Om,Om,q2.later d
 |eit o p c=>
  have g:SqT K H u _:=j
  exists 4,_,"tuple",true,rfl,.tuple,.inl ⟨⟨_,g⟩,rfl⟩,4,iteF ⟨_,rfl,u,_,rfl,.inr g,rfl,_,rfl,iteF ?_⟩
  exists 4,u,8,g,at40,Z1 4,fun T m=>?_
  have d:=Qb m (.tup [.str "given",.str "low",.str "high",.str "better"])
  exists T,4,.inr (Ql upd_same),rfl,rfl,4,ite2 (fun e=>Y21 e Dk) (fun _=>?_)
  generalize upd H T (.tup [.str "given",.str "low",.str "high",.str "better"])=H1 at d⊢
  have a:=d.tup g
  exists 4,u,8,a,at40,rfl,4,ite2 (fun e=>Y21 e Dk) (fun _=>iteF ?_)
  exists 4,u,8,a,at40,rfl,4,ite2 (fun e=>Y21 e Dk) (fun _=>iteF ?_)
  exists 4,u,4,.inr a,7,4,ite2 (fun e=>Y21 e (by simp)) (fun _=>?_)
  exists 4,u,8,a,at41,4,h,4,.inl (d.seq hw),o,4,fun bb n=>⟨_,rfl,ite2 (fun y=>?_) (fun y=>?_)⟩
  .refine q.1 (Y20 fun z=>?_) _ d
   have z':InH r o:=z.1
   rw[n.mpr ⟨z'.1,by rw[lw];exact z'.2⟩]at y;exact Y21 y Dc
  have V:bb=true:=by
   cases bb with
   |true=>rfl
   |false=>exact Y21 rfl y
  obtain⟨o0,S⟩:=n.mp V
  rw[lw]at S
  obtain⟨tr,X,hR,R⟩:=Qaj (J.imp fun _ _ z=>z.same d) o0 S
  have I:=O _ R
  exists 4,u,8,a,at40,rfl,4,ite2 (fun e=>Y21 e Dk) (fun _=>iteF ?_)
  exists 4,u,8,a,at40,rfl,4,ite2 (fun e=>Y21 e Dk) (fun _=>iteF ?_)
  exists 4,u,8,a,at40,rfl,4,ite2 (fun _=>?_) (fun e=>Y21 Dk e)
  exists 4,u,4,.inr a,rfl,4,ite2 (fun _=>?_) (fun e=>Y21 (by simp) e)
  exists 4,u,8,a,at42,4,h,4,.inl (d.seq hw),p,4,fun b2 ac=>⟨_,rfl,ite2 (fun y2=>?_) (fun y2=>iteF (q.1 (Y20 fun z=>?_) _ d))⟩
  case refine_2=>exact y2 (ac.mpr ⟨z.2.1.1,by rw[lw];exact z.2.1.2⟩)
  obtain⟨q0,q1⟩:=ac.mp y2
  rw[lw]at q1
  obtain⟨ae,aa,ag,ab⟩:=Qaj (J.imp fun _ _ z=>z.same d) q0 q1
  exists 4,u,8,a,at43,4,t,8,d.tup p1,at1,cP,4,.inr (d.tup p4),c,4,fun b3 ad=>⟨_,rfl,ite2 (fun y3=>?_) (fun y3=>q.1 (Y20 fun z=>y3 (ad.mpr ⟨z.2.2.1,by rw[jQ];exact z.2.2.2⟩)) _ d)⟩
  obtain⟨c0,c1⟩:=ad.mp y3
  rw[jQ]at c1
  obtain⟨c',rfl⟩:∃c':Nat,c=(c':Int):=⟨c.toNat,Om⟩
  have q2:AnsO K H Q (eitR (rowK r o.toNat) (rowK r p.toNat) c'):=by
   have e:rowL Z G i r (.eit o p (c':Int))=eitR (rowK r o.toNat) (rowK r p.toNat) (c':Int).toNat:=Y22 ⟨⟨o0,S⟩,⟨q0,q1⟩,c0,c1⟩
   rw[yV]at e
   rw[e]at q;exact q
  exists 4,4,u,8,a,at41,h,8,d.seq hw,X,4,4,u,8,a,at42,h,8,d.seq hw,aa,4,u,8,a,at43,tr,ae,_,_,c',G.length,rfl,hR,ag,I,O _ ab,Om,Om,q2.later d
theorem Jt:bootBuiltins "divmod"=some (.builtin "divmod"):=Dk
theorem Qud(ns:List Int)(k:Nat)(y:Int):insV (ns.map V.int) k (.int y)=(ns.take k++y::ns.drop k).map V.int:=by
 unfold insV
 rw[kK,xZ,yQe,yQf]
theorem PairsAre.updL(a:H g=some (.lst xs))(h:PairsAre K H vs ps):PairsAre K (L2.upd H g (.lst ys)) vs ps:=PairsAre.upd a h
def mx1(x:Int):Int:=if x > 1 then x else 1
theorem Qqi{x:Int}(h:x<=2000):0<mx1 x/\mx1 x<1073741824/\mx1 x<=2000:=by unfold mx1;split<;>lia
def Xs(y:Int):Nat->List (Int×Int)×Int
 |0=>([],y)
 |i+1=>(if (Xs y i).2 % 3<2 then(Xs y i).1++[((i:Int),(Xs y i).2 % 3)]else(Xs y i).1,(Xs y i).2 / 3)
theorem Qak(y:Int):∀i,Good i (Xs y i).1
 |0=>⟨yQa,fun _ h=>(nomatch h)⟩
 |i+1=>by
  have d:=Qak y i
  have e:Good (i+1) (Xs y i).1:=⟨d.nd,fun p c=>by have:=d.ok p c;lia⟩
  show Good (i+1) (if (Xs y i).2 % 3<2 then(Xs y i).1++[((i:Int),(Xs y i).2 % 3)]else(Xs y i).1)
  split
  .refine⟨?_,fun p c=>?_⟩
   .rw[kK,List.nodup_append]
    exists d.nd,by simp,fun a g b j=>?_
    obtain⟨p,c,rfl⟩:=zW.mp g
    have:=d.ok p c
    have f:b=(i:Int):=by simpa using j
    lia
   .rcases xW.mp c with h | h
    .exact e.ok p h
    .rw[kW.mp h]
     exists by show(0:Int)<=(i:Int);lia,by show(i:Int)<((i+1:Nat):Int);lia,by show(Xs y i).2 % 3=0\/(Xs y i).2 % 3=1;lia
  .exact e
def Zh(y:Int):Nat->List Nat×Int
 |0=>([],y)
 |i+1=>((Zh y i).1.take ((Zh y i).2 % ((i:Int)+1)).toNat++i::(Zh y i).1.drop ((Zh y i).2 % ((i:Int)+1)).toNat,(Zh y i).2 / ((i:Int)+1))
theorem Qcw(y:Int):∀i,IsTurn i (Zh y i).1
 |0=>⟨.refl _⟩
 |i+1=>Qsq (Qcw y i) _
def dl(n m:Nat)(w o1 o2 ch y:Int):DL :=
 if w=0 then .giv (y % mx1 (m:Int))else if w=1 then .low ch else if w=2 then .high ch else if w=3 then .bet
 else if w=4 then(if y / 12 % 2=0 then .sm [(o1,y % 3)]else .sm [(o1,y % 3),(o2,y / 3 % 4)])
 else if w=5 then .shr o1 (1+y % 3)else if w=7 then(if y % 2=0 then .eit o1 o2 ch else .lik (Zh (y / 2) n).1)else .sht o1 (Xs y n).1
def Qcx(n m:Nat)(seen z:Int):DL:=dl n m (z % 8) (z / 8 % mx1 seen) (z / 8 / mx1 seen % mx1 seen) (z / 8 / mx1 seen / mx1 seen % mx1 (n:Int)) (z / 8 / mx1 seen / mx1 seen / mx1 (n:Int))
section
variable{w o1 o2 ch y:Int}
theorem dl0(h:w=0):dl n m w o1 o2 ch y=.giv (y % mx1 (m:Int)):=by subst h;rfl
theorem dl1(h:w=1):dl n m w o1 o2 ch y=.low ch:=by subst h;rfl
theorem dl2(h:w=2):dl n m w o1 o2 ch y=.high ch:=by subst h;rfl
theorem dl3(h:w=3):dl n m w o1 o2 ch y=.bet:=by subst h;rfl
theorem dl4a(h:w=4)(e:y / 12 % 2=0):dl n m w o1 o2 ch y=.sm [(o1,y % 3)]:=by subst h;exact Y22 e
theorem dl4b(h:w=4)(e:y / 12 % 2=1):dl n m w o1 o2 ch y=.sm [(o1,y % 3),(o2,y / 3 % 4)]:=by subst h;show(if y / 12 % 2=0 then _ else _)=_;rw[Y20 (show ¬y / 12 % 2=0 by lia)]
theorem dl5(h:w=5):dl n m w o1 o2 ch y=.shr o1 (1+y % 3):=by subst h;rfl
theorem dl7a(h:w=7)(e:y % 2=0):dl n m w o1 o2 ch y=.eit o1 o2 ch:=by subst h;exact Y22 e
theorem dl7b(h:w=7)(e:y % 2=1):dl n m w o1 o2 ch y=.lik (Zh (y / 2) n).1:=by subst h;show(if y % 2=0 then _ else _)=_;rw[Y20 (show ¬y % 2=0 by lia)]
theorem dl6(h:w=6):dl n m w o1 o2 ch y=.sht o1 (Xs y n).1:=by subst h;rfl
end
inductive spTrn(K:Fg)(vs:List V)(H:Hp)(Q:VK)(E:XK):Prop|mk(z:Int)(n:Nat)(_:vs=[.int z,.int (n:Int)])(_:n<=20)(_:∀(l:Addr) (H':Hp),Same H H'->H l=none->H' l=some (.lst ((tI (Zh z n).1).map V.int))->Q (.ref l) H'):spTrn K vs H Q E
def DLN(K:Fg)(H0 H:Hp)(u:Addr):DL->Prop
 |.sm ps=>∃l ws,H0 l=none/\SqT K H u [.str "sum",.ref l]/\H l=some (.lst ws)/\PairsAre K H ws (ps.map fun p=>(p.1,V.int p.2))
 |.sht o hs=>∃l ws,H0 l=none/\SqT K H u [.str "shut",.int o,.ref l]/\H l=some (.lst ws)/\PairsAre K H ws (hs.map fun p=>(p.1,V.int p.2))
 |.lik ts=>∃l,H0 l=none/\SqT K H u [.str "like",.ref l]/\H l=some (.lst ((tI ts).map V.int))
 |ln=>DLAt K H u ln
theorem DLN.dlat{u:Addr}{ln:DL}(h:DLN K H0 H u ln):DLAt K H u ln:=by
 cases ln with
 |sm ps=>obtain⟨l,f,_,d,a,e⟩:=h;exists l,d,f,Qg a,e
 |sht o hs=>obtain⟨l,f,_,d,a,e⟩:=h;exists l,d,f,Qg a,e
 |lik ts=>obtain⟨l,_,d,a⟩:=h;exists l,d,Qg a
 |giv k=>exact h
 |low k=>exact h
 |high k=>exact h
 |bet=>exact h
 |shr o b=>exact h
 |eit o p c=>exact h
theorem DLN.updL{u:Addr}{ln:DL}(h:DLN K H0 H u ln)(a:H g=some (.lst xs))(m:H0 g≠none):DLN K H0 (upd H g (.lst ys)) u ln:=by
 have ne:∀l,H0 l=none->l≠g:=fun l e z=>m (by rw[<-z];exact e)
 cases ln with
 |sm ps=>obtain⟨l,j,n,f,d,i⟩:=h;exists l,j,n,Yk a f,by rw[Qn (ne l n)];exact d,PairsAre.updL a i
 |sht o hs=>obtain⟨l,j,n,f,d,i⟩:=h;exists l,j,n,Yk a f,by rw[Qn (ne l n)];exact d,PairsAre.updL a i
 |lik ts=>obtain⟨l,n,f,d⟩:=h;exists l,n,Yk a f,by rw[Qn (ne l n)];exact d
 |giv k=>exact Yk a h
 |low k=>exact Yk a h
 |high k=>exact Yk a h
 |bet=>exact Yk a h
 |shr o b=>exact Yk a h
 |eit o p c=>exact Yk a h
theorem DLN.same{u:Addr}{ln:DL}(h:DLN K H0 H u ln)(s:Same H H'):DLN K H0 H' u ln:=by
 cases ln with
 |sm ps=>obtain⟨l,f,n,d,a,e⟩:=h;exists l,f,n,s.tup d,s _ _ a,PairsAre.same s e
 |sht o hs=>obtain⟨l,f,n,d,a,e⟩:=h;exists l,f,n,s.tup d,s _ _ a,PairsAre.same s e
 |lik ts=>obtain⟨l,n,d,a⟩:=h;exists l,n,s.tup d,s _ _ a
 |giv k=>exact s.tup h
 |low k=>exact s.tup h
 |high k=>exact s.tup h
 |bet=>exact s.tup h
 |shr o b=>exact s.tup h
 |eit o p c=>exact s.tup h
theorem DLN.older{u:Addr}{ln:DL}(h:DLN K H1 H u ln)(d:∀l,H1 l=none->H0 l=none):DLN K H0 H u ln:=by
 cases ln with
 |sm ps=>obtain⟨l,e,n,a⟩:=h;exists l,e,d l n,a
 |sht o hs=>obtain⟨l,e,n,a⟩:=h;exists l,e,d l n,a
 |lik ts=>obtain⟨l,n,a⟩:=h;exists l,d l n,a
 |giv k=>exact h
 |low k=>exact h
 |high k=>exact h
 |bet=>exact h
 |shr o b=>exact h
 |eit o p c=>exact h
inductive Qqj(K:Fg)(vs:List V)(H:Hp)(Q:VK)(E:XK):Prop|mk(t:Addr)(rs:List (List Int×Int))(cs:List Int)(seen z:Int)(_:vs=[.ref t,.int seen,.int z])(_:ProbAt K H t rs cs)(_:cs.length<=20)(_:rs.length<=20)(_:seen<=1000)(_:∀(u:Addr) (H':Hp),Same H H'->DLN K H H' u (Qcx cs.length rs.length seen z)->DLok cs.length (Qcx cs.length rs.length seen z)->Q (.ref u) H'):Qqj K vs H Q E
abbrev Que:Stmt:=top 63
theorem scTurn:FnScope ["_law_left_here","_law_many","_law_turn_here","_law_k","_law_place"] ["_law_left_here","_law_many"] (Qf Que):=Sc
theorem okTurn(F:Fn K mg "_law_turn" Que)(M:Mg mg)(J:mg "divmod"=none):qC 1 "_law_turn" ["_law_left_here","_law_many"] (spTrn K):=by
 refine Xd F scTurn (a:=fun f L A r s H S Q E U h=>?_)
 obtain⟨z,n,rfl,T,q⟩:=h
 refine⟨_,(Qe (Z4 2 scTurn.nd (Xp Qc))
  (Qe (Xy PassesOwn.never rfl (Yi rfl M.range_ (Qa (pv 1) Qc)) (Z3 3 scTurn.nd) (Qe (Zo (Qi Zp rfl J Jt (Qa (pv 0) (Qa (Qx Yw (pv 3) Qd) Qc))) (Yg (K:=K) (i:=0) (j:=4) rfl rfl scTurn.nd rfl rfl rfl rfl))
  (Qh (Zj (Wz Y1 PySem.F.slot_list_insert PySem.F.type_list_insert Qoe (pv 2) (Qa (pv 4) (Qa (pv 3) Qc)))))))
  (Qh (Qp (pv 2))))),?_⟩
 refine Zd ?_;intros
 exists"z"
 exists Z1 0,fun l v=>?_
 have G:=Qb v (.lst [])
 have D:upd H l (.lst []) l=some (.lst []):=upd_same
 generalize upd H l (.lst [])=H1 at G D⊢
 exists 4,4,Om,Om,Jf (lo:=0) (n:=Int.toNat (n:Int)) (fun i u c=>∃(y x:Option V),u=[some (.int (Zh z i).2),some (.int (n:Int)),some (.ref l),y,x]/\c l=some (.lst ((tI (Zh z i).1).map V.int))/\Same H c) ⟨none,none,rfl,D,G⟩ ?_ ?_
 .rintro i u c W ⟨y,x,rfl,d,m⟩
  have t:(tI (Zh z i).1).length=i:=by rw[Vn];exact(Qcw z i).length
  have g:Zh z (i+1)=((Zh z i).1.take ((Zh z i).2 % ((i:Int)+1)).toNat++i::(Zh z i).1.drop ((Zh z i).2 % ((i:Int)+1)).toNat,(Zh z i).2 / ((i:Int)+1)):=rfl
  rw[g]
  clear g
  generalize Zh z i=TT at d t⊢
  obtain⟨a,k⟩:=TT
  have d:c l=some (.lst ((tI a).map V.int)):=d
  have t:(tI a).length=i:=t
  dsimp only
  exists 4,4,7,_,4,⟨by show(0:Int)<0+(i:Int)+1;lia,by show(0:Int)+(i:Int)+1<1073741824;lia⟩,fun p O=>?_
  rw[yXc]
  have C:=Qb O (.tup [.int (k / ((i:Int)+1)),.int (k % ((i:Int)+1))])
  have B:=C _ _ d
  have R:=jQa k (show(i:Int)+1≠0 by lia)
  have X:=wJ k (show(0:Int)<(i:Int)+1 by lia)
  exists p,4,Ql upd_same,rfl,_,4,7,?_
  exists 4,.inl ⟨rfl,_,Qg B⟩,4,4,l,8,B,R,by rw[jQ];lia,by rw[jQ];lia,?_
  rw[Qud]
  exists _,4,?_,fun b o e=>?_
  .rw[upd_same]
   show some (HO.lst (((tI a).take _++(i:Int)::(tI a).drop _).map V.int))=some (HO.lst ((tI (a.take _++i::a.drop _)).map V.int))
   unfold tI
   simp only[kK,xZ,yQe,yQf]
  .rw[Qn (Qk e v)];exact C _ _ (m _ _ e)
 .rintro u c ⟨y,x,rfl,d,m⟩
  exists 4,q l c m v d
abbrev Qhu:Stmt:=top 62
theorem scDrawn:FnScope ["_law_problem_here","_law_many_seen","_law_cell","_law_many","_law_left_here","_law_word","_law_one","_law_other","_law_choice","_law_holds_here","_law_k","_law_worth"] ["_law_problem_here","_law_many_seen","_law_cell"] (Qf Qhu):=Sc
theorem Qxm(F:Fn K mg "_law_drawn" Qhu)(M:Mg mg)(DM:mg "divmod"=none)(S:qC 1 "_law_turn" ["_law_left_here","_law_many"] (spTrn K)):qC 2 "_law_drawn" ["_law_problem_here","_law_many_seen","_law_cell"] (Qqj K):=by
 refine Xd F scDrawn (a:=fun f aI A az s H vs Q E hr h=>?_)
 obtain⟨t,rs,v,a,z,rfl,⟨lP,c,vP,ht,aB,aD,hc⟩,hn,hm,aK,q⟩:=h
 have B:=Z6 1 hr.un
 refine⟨_,(Qe (Z4 3 scDrawn.nd (qL (Qo Qm (pv 0) Qd)))
  (Qe (Zo (Qi Zp rfl DM Jt (Qa (pv 2) (Qa Qd Qc))) (Yg (K:=K) (i:=4) (j:=5) rfl rfl scDrawn.nd rfl rfl rfl rfl))
  (Qe (Zo (Qi Zp rfl DM Jt (Qa (pv 4) (Qa (Qi (Ko rfl) rfl M.max Qgu (Qa Qd (Qa (pv 1) Qc))) Qc))) (Yg (K:=K) (i:=4) (j:=6) rfl rfl scDrawn.nd rfl rfl rfl rfl))
  (Qe (Zo (Qi Zp rfl DM Jt (Qa (pv 4) (Qa (Qi (Ko rfl) rfl M.max Qgu (Qa Qd (Qa (pv 1) Qc))) Qc))) (Yg (K:=K) (i:=4) (j:=7) rfl rfl scDrawn.nd rfl rfl rfl rfl))
  (Qe (Zo (Qi Zp rfl DM Jt (Qa (pv 4) (Qa (Qi (Ko rfl) rfl M.max Qgu (Qa Qd (Qa (pv 3) Qc))) Qc))) (Yg (K:=K) (i:=4) (j:=8) rfl rfl scDrawn.nd rfl rfl rfl rfl))
  (Qe (Xe (Qq Xz (pv 5) Qd (Qt _)) (Qh (Qp (Xh (Qa Xi (Qa (Qx Yx (pv 4) (Qi (Ko rfl) rfl M.max Qgu (Qa Qd (Qa (qL (Qo Qm (pv 0) Qd)) Qc)))) Qc))))) Qr)
  (Qe (Xe (Qq Vx (pv 5) (Xh (Qa Qd (Qa Qd Qc))) rfl) (Qh (Qp (Xh (Qa (Qo ix_list (Xp (Qa Xi (Qa Xi Qc))) (Qx Yr (pv 5) Qd)) (Qa (pv 8) Qc))))) Qr)
  (Qe (Xe (Qq Xz (pv 5) Qd (Qt _)) (Qh (Qp (Xh (Qa Xi Qc)))) Qr)
  (Qe (Xe (Qq Xz (pv 5) Qd (Qt _)) (Qh (Qp (Xh (Qa Xi (Qa (Za Wy (Xp (Qa (Xh (Qa (pv 6) (Qa (Qx Yx (pv 4) Qd) Qc))) (Qa (Xh (Qa (pv 7) (Qa (Qx Yx (Qx Jv (pv 4) Qd) Qd) Qc))) Qc))) Kp (Yt (Qx Yw Qd (Qx Yx (Qx Jv (pv 4) Qd) Qd)))) Qc))))) Qr)
  (Qe (Xe (Qq Xz (pv 5) Qd (Qt _)) (Qh (Qp (Xh (Qa Xi (Qa (pv 6) (Qa (Qx Yw Qd (Qx Yx (pv 4) Qd)) Qc)))))) Qr)
  (Qe (Xe (Qq Xz (pv 5) Qd (Qt _)) (Qh (Qp (Qo ix_list (Xp (Qa (Xh (Qa Xi (Qa (pv 6) (Qa (pv 7) (Qa (pv 8) Qc))))) (Qa (Xh (Qa Xi (Qa (Xc S (hr.mono Dc) (Qa (Qx Jv (pv 4) Qd) (Qa (pv 3) Qc))) Qc))) Qc))) (Qx Yx (pv 4) Qd)))) Qr)
  (Qe (Z4 9 scDrawn.nd (Xp Qc))
  (Qe (Xy PassesOwn.never rfl (Yi rfl M.range_ (Qa (pv 3) Qc)) (Z3 10 scDrawn.nd) (Qe (Zo (Qi Zp rfl DM Jt (Qa (pv 4) (Qa Qd Qc))) (Yg (K:=K) (i:=4) (j:=11) rfl rfl scDrawn.nd rfl rfl rfl rfl))
  (Qh (Xe (Qq Qeg (pv 11) Qd (Qt _)) (Qh (Zj (Wz Y1 Y2 Y3 Ye (pv 9) (Qa (Xh (Qa (pv 10) (Qa (pv 11) Qc))) Qc)))) Qr))))
  (Qh (Qp (Xh (Qa Xi (Qa (pv 6) (Qa (pv 9) Qc))))))))))))))))))),?_⟩
 exists"z"
 have lr:=Paired.length aD
 have lc:(v.map V.int).length=v.length:=jQ ..
 have q:∀(u:Addr) (ln:DL) (H':Hp),ln=Qcx v.length rs.length a z->Same H H'->DLN K H H' u ln->DLok v.length ln->Q (.ref u) H':=fun u ln H' e s d o=>by subst e;exact q u H' s d o
 exists 4,t,8,ht,at1,c,4,.inr hc,?_
 exists 4,_,4,⟨Dc,Dc⟩,fun p1 aq=>?_
 have s1:=Qb aq (.tup [.int (z / 8),.int (z % 8)])
 have h1:upd H p1 (.tup [.int (z / 8),.int (z % 8)]) p1=some (.tup [.int (z / 8),.int (z % 8)]):=upd_same
 generalize upd H p1 (.tup [.int (z / 8),.int (z % 8)])=H1 at s1 h1⊢
 exists p1,4,Ql h1,rfl,_,4,7,?_
 have aC:=jQa z (show(8:Int)≠0 by decide)
 have aE:=wJ z (show(0:Int)<8 by decide)
 unfold Qcx at q
 generalize z % 8=w at aC aE h1 q⊢
 generalize z / 8=O at h1 q⊢
 obtain⟨j2,j3,jm⟩:=Qqi (show a<=2000 by lia)
 exists 4,4,_,4,_,4,⟨j2,j3⟩,fun p2 av=>?_
 generalize em:mx1 a=m at j2 j3 jm q
 have af:(if a > 1 then a else 1)=m:=em
 rw[af]
 have oa:=jQa O (show m≠0 by lia)
 have ob:=wJ O j2
 have s2:=s1.trans (Qb av (.tup [.int (O / m),.int (O % m)]))
 have h2:upd H1 p2 (.tup [.int (O / m),.int (O % m)]) p2=some (.tup [.int (O / m),.int (O % m)]):=upd_same
 generalize upd H1 p2 (.tup [.int (O / m),.int (O % m)])=H2 at s2 h2⊢
 exists p2,4,Ql h2,rfl,_,4,7,?_
 generalize O % m=o1 at h2 q oa ob⊢
 generalize O / m=I at h2 q⊢
 exists 4,4,_,4,_,4,(show 0<(if a > 1 then a else 1)/\(if a > 1 then a else 1)<1073741824 by rw[af];exact⟨j2,j3⟩),fun p3 aw=>?_
 rw[af]
 have oc:=jQa I (show m≠0 by lia)
 have od:=wJ I j2
 have s3:=s2.trans (Qb aw (.tup [.int (I / m),.int (I % m)]))
 have h3:upd H2 p3 (.tup [.int (I / m),.int (I % m)]) p3=some (.tup [.int (I / m),.int (I % m)]):=upd_same
 generalize upd H2 p3 (.tup [.int (I / m),.int (I % m)])=H3 at s3 h3⊢
 exists p3,4,Ql h3,rfl,_,4,7,?_
 generalize I % m=o2 at h3 q oc od⊢
 generalize I / m=J at h3 q⊢
 obtain⟨j6,j7,jn⟩:=Qqi (show(((v.map V.int).length:Nat):Int)<=2000 by lia)
 exists 4,4,_,4,_,4,⟨j6,j7⟩,fun p4 ao=>?_
 rw[show mx1 (v.length:Int)=mx1 (((v.map V.int).length:Nat):Int)by rw[lc]]at q
 generalize en:mx1 (((v.map V.int).length:Nat):Int)=m2 at j6 j7 jn q
 have ar:(if (((v.map V.int).length:Nat):Int) > 1 then(((v.map V.int).length:Nat):Int)else 1)=m2:=en
 rw[ar]
 have oe:=jQa J (show m2≠0 by lia)
 have an:=wJ J j6
 have s4:=s3.trans (Qb ao (.tup [.int (J / m2),.int (J % m2)]))
 have h4:upd H3 p4 (.tup [.int (J / m2),.int (J % m2)]) p4=some (.tup [.int (J / m2),.int (J % m2)]):=upd_same
 generalize upd H3 p4 (.tup [.int (J / m2),.int (J % m2)])=H4 at s4 h4⊢
 exists p4,4,Ql h4,rfl,_,4,7,?_
 generalize J % m2=ch at h4 q oe an⊢
 generalize J / m2=y at h4 q⊢
 clear h1 h2 h3 h4
 have new:∀l,H4 l=none->H l=none:=fun l e=>by
  cases e5:H l with
  |none=>rfl
  |some o=>rw[s4 _ _ e5]at e;cases e
 exists 4,rfl,4,ite2 (fun c0=>?_) (fun c0=>?_)
 .obtain⟨j8,j9,aJ⟩:=Qqi (show(vP.length:Int)<=2000 by lia)
  have k1:=jQa y (show mx1 (vP.length:Int)≠0 by lia)
  have k2:=wJ y j8
  exists 4,4,t,8,s4.tup ht,at0,lP,4,.inl (s4.seq aB),_,4,7,j8,Z1 2,fun u B=>?_
  exact q u (.giv (y % mx1 (vP.length:Int))) _ ((by rw[lr]:DL.giv (y % mx1 (vP.length:Int))=.giv (y % mx1 (rs.length:Int))).trans (dl0 (V.int.inj (kZ c0))).symm) (s4.trans (Qb B _)) (Ql upd_same) ⟨k1,by show y % mx1 (vP.length:Int)<1000000;lia⟩
 exists 4,Z1 2,fun T hT=>?_
 have Z:=s4.trans (Qb hT (.tup [.int 1,.int 2]))
 have ak:SqT K (upd H4 T (.tup [.int 1,.int 2])) T [.int 1,.int 2]:=Ql upd_same
 generalize upd H4 T (.tup [.int 1,.int 2])=H5 at Z ak⊢
 exists T,4,.inr ak,rfl,rfl,4,ite2 (fun ax=>?_) (fun ap=>?_)
 .have hy:w=1\/w=2:=by
   have y':((1:Int) == w||((2:Int) == w||false))=true:=ax
   simp only[jZe,beq_iff_eq,yZ,or_false]at y'
   lia
  exists Z1 2,fun L hL=>?_
  have s6:=Z.trans (Qb hL (.lst [.str "low",.str "high"]))
  have ag:upd H5 L (.lst [.str "low",.str "high"]) L=some (.lst [.str "low",.str "high"]):=upd_same
  generalize upd H5 L (.lst [.str "low",.str "high"])=H6 at s6 ag⊢
  rcases hy with rfl | rfl
  .refine⟨_,rfl,_,_,rfl,rfl,L,_,_,_,rfl,rfl,Qg ag,(show atI [V.str "low",V.str "high"] ((0:Nat):Int)=some (.str "low")from rfl),_,rfl,Z1 2,fun u B=>?_⟩
   exact q u (.low ch) _ (dl1 rfl).symm (s6.trans (Qb B _)) (Ql upd_same) ⟨oe,Om⟩
  .refine⟨_,rfl,_,_,rfl,rfl,L,_,_,_,rfl,rfl,Qg ag,(show atI [V.str "low",V.str "high"] ((1:Nat):Int)=some (.str "high")from rfl),_,rfl,Z1 2,fun u B=>?_⟩
   exact q u (.high ch) _ (dl2 rfl).symm (s6.trans (Qb B _)) (Ql upd_same) ⟨oe,Om⟩
 have aF:w≠1/\w≠2:=by
  have y':¬((1:Int) == w||((2:Int) == w||false))=true:=ap
  simp only[jZe,beq_iff_eq,yZ,or_false]at y'
  lia
 have aa:∀l,H5 l=none->H l=none:=fun l e=>by
  cases e5:H l with
  |none=>rfl
  |some o=>rw[Z _ _ e5]at e;cases e
 exists 4,rfl,4,ite2 (fun c3=>?_) (fun c3=>?_)
 .refine⟨Z1 1,fun u B=>?_⟩
  exact q u .bet _ (dl3 (V.int.inj (kZ c3))).symm (Z.trans (Qb B _)) (Ql upd_same) trivial
 exists 4,rfl,4,ite2 (fun c4=>?_) (fun c4=>?_)
 .refine⟨_,rfl,_,rfl,_,_,rfl,rfl,by show(0:Int)<3;decide,Z1 2,fun k ac=>?_⟩
  have a1:=Qb ac (.tup [.int o1,.int (y % 3)])
  have Y:upd H5 k (.tup [.int o1,.int (y % 3)]) k=some (.tup [.int o1,.int (y % 3)]):=upd_same
  generalize upd H5 k (.tup [.int o1,.int (y % 3)])=H6 at a1 Y⊢
  exists 4,4,7,⟨Dc,Dc⟩,7,by show(0:Int)<4;decide,Z1 2,fun r ad=>?_
  have a2:=Qb ad (.tup [.int o2,.int (y / 3 % 4)])
  have h7:upd H6 r (.tup [.int o2,.int (y / 3 % 4)]) r=some (.tup [.int o2,.int (y / 3 % 4)]):=upd_same
  generalize upd H6 r (.tup [.int o2,.int (y / 3 % 4)])=G at a2 h7⊢
  exists Z1 2,fun L hL=>?_
  have a3:=Qb hL (.lst [.ref k,.ref r])
  have X:upd G L (.lst [.ref k,.ref r]) L=some (.lst [.ref k,.ref r]):=upd_same
  generalize upd G L (.lst [.ref k,.ref r])=H8 at a3 X⊢
  have s8:=Z.trans ((a1.trans a2).trans a3)
  have am:SqT K H8 k [.int o1,.int (y % 3)]:=Ql (a3 _ _ (a2 _ _ Y))
  have ay:SqT K H8 r [.int o2,.int (y / 3 % 4)]:=Ql (a3 _ _ h7)
  exists 4,7,⟨Dc,Dc⟩,7,by show(0:Int)<2;decide,_,_,rfl,rfl,_,rfl,L,_,rfl,Qg X,fun N W=>?_
  have al:H N=none:=by
   cases e5:H N with
   |none=>rfl
   |some o=>rw[s8 _ _ e5]at W;cases W
  have b0:0<=y % 3/\y % 3<=3:=Om
  have b1:0<=y / 3 % 4/\y / 3 % 4<=3:=Om
  rcases(show y / 12 % 2=0\/y / 12 % 2=1 by lia)with e | e
  .rw[e,show cutV [V.ref k,V.ref r] none (some (1+0))=[.ref k]from rfl]
   have a4:=Qb W (.lst [.ref k])
   have R:upd H8 N (.lst [.ref k]) N=some (.lst [.ref k]):=upd_same
   generalize upd H8 N (.lst [.ref k])=H9 at a4 R⊢
   exists Z1 2,fun u B=>?_
   have a5:=Qb B (.tup [.str "sum",.ref N])
   refine q u (.sm [(o1,y % 3)]) _ (dl4a (V.int.inj (kZ c4)) e).symm ((s8.trans a4).trans a5) ⟨N,_,al,Ql upd_same,a5 _ _ R,.cons ⟨k,rfl,a5.tup (a4.tup am)⟩ .nil⟩ ⟨by show 1<=10;decide,fun p hp=>?_⟩
   rw[kW.mp hp];exists ⟨oa,by show o1<1000000;lia⟩,b0
  .rw[e,show cutV [V.ref k,V.ref r] none (some (1+1))=[.ref k,.ref r]from rfl]
   have a4:=Qb W (.lst [.ref k,.ref r])
   have R:upd H8 N (.lst [.ref k,.ref r]) N=some (.lst [.ref k,.ref r]):=upd_same
   generalize upd H8 N (.lst [.ref k,.ref r])=H9 at a4 R⊢
   exists Z1 2,fun u B=>?_
   have a5:=Qb B (.tup [.str "sum",.ref N])
   refine q u (.sm [(o1,y % 3),(o2,y / 3 % 4)]) _ (dl4b (V.int.inj (kZ c4)) e).symm ((s8.trans a4).trans a5) ⟨N,_,al,Ql upd_same,a5 _ _ R,.cons ⟨k,rfl,a5.tup (a4.tup am)⟩ (.cons ⟨r,rfl,a5.tup (a4.tup ay)⟩ .nil)⟩ ⟨by show 2<=10;decide,fun p hp=>?_⟩
   rcases zK.mp hp with h | h
   .rw[h];exists ⟨oa,by show o1<1000000;lia⟩,b0
   .rw[kW.mp h];exists ⟨oc,by show o2<1000000;lia⟩,b1
 exists 4,rfl,4,ite2 (fun c5=>?_) (fun c5=>?_)
 .refine⟨_,rfl,_,rfl,_,_,rfl,rfl,by show(0:Int)<3;decide,_,_,rfl,rfl,Z1 3,fun u B=>?_⟩
  exact q u (.shr o1 (1+y % 3)) _ (dl5 (V.int.inj (kZ c5))).symm (Z.trans (Qb B _)) (Ql upd_same) ⟨⟨oa,Om⟩,Om,Om⟩
 exists 4,rfl,4,ite2 (fun c7=>?_) (fun c7=>?_)
 .refine⟨_,rfl,_,rfl,_,rfl,Z1 4,fun k ac=>?_⟩
  have a1:=Qb ac (.tup [.str "either",.int o1,.int o2,.int ch])
  have Y:upd H5 k (.tup [.str "either",.int o1,.int o2,.int ch]) k=some (.tup [.str "either",.int o1,.int o2,.int ch]):=upd_same
  generalize upd H5 k (.tup [.str "either",.int o1,.int o2,.int ch])=H6 at a1 Y⊢
  exists 4,7,⟨Dc,Dc⟩,4,y / 2,v.length,by rw[lc];rfl,hn,fun l G s7 ai au=>?_
  exists Z1 2,fun r ad=>?_
  have x:=Qb ad (.tup [.str "like",.ref l])
  have X:upd G r (.tup [.str "like",.ref l]) r=some (.tup [.str "like",.ref l]):=upd_same
  generalize upd G r (.tup [.str "like",.ref l])=H8 at x X⊢
  exists Z1 2,fun L hL=>?_
  have U:=Qb hL (.lst [.ref k,.ref r])
  have R:upd H8 L (.lst [.ref k,.ref r]) L=some (.lst [.ref k,.ref r]):=upd_same
  generalize upd H8 L (.lst [.ref k,.ref r])=H9 at U R⊢
  have s9:=(Z.trans a1).trans ((s7.trans x).trans U)
  have l0:H l=none:=aa l (by
   cases e5:H5 l with
   |none=>rfl
   |some o=>rw[a1 _ _ e5]at ai;cases ai)
  rcases(show y % 2=0\/y % 2=1 by lia)with e | e
  .exact⟨_,rfl,_,_,rfl,rfl,by show(0:Int)<2;decide,L,_,_,_,rfl,rfl,Qg R,(show atI [V.ref k,V.ref r] (y % 2)=some (.ref k)by rw[e];rfl),q k (.eit o1 o2 ch) _ (dl7a (V.int.inj (kZ c7)) e).symm s9 (Ql (((s7.trans x).trans U) _ _ Y)) ⟨⟨oa,Om⟩,⟨oc,Om⟩,oe,Om⟩⟩
  .exact⟨_,rfl,_,_,rfl,rfl,by show(0:Int)<2;decide,L,_,_,_,rfl,rfl,Qg R,(show atI [V.ref k,V.ref r] (y % 2)=some (.ref r)by rw[e];rfl),q r (.lik (Zh (y / 2) v.length).1) _ (dl7b (V.int.inj (kZ c7)) e).symm s9 ⟨l,l0,Ql (U _ _ X),(x.trans U) _ _ au⟩ (Qcw _ _)⟩
 exists Z1 0,fun g hg=>?_
 have a6:=Qb hg (.lst [])
 have Y:upd H5 g (.lst []) g=some (.lst []):=upd_same
 generalize upd H5 g (.lst [])=H6 at a6 Y⊢
 have g0:=aa g hg
 have w6:w=6:=by
  have e0:w≠0:=fun z=>c0 (by rw[z];rfl)
  have e3:w≠3:=fun z=>c3 (by rw[z];rfl)
  have e4:w≠4:=fun z=>c4 (by rw[z];rfl)
  have e5:w≠5:=fun z=>c5 (by rw[z];rfl)
  have e7:w≠7:=fun z=>c7 (by rw[z];rfl)
  lia
 exists 4,4,Om,Om,Jf (lo:=0) (n:=Int.toNat (((v.map V.int).length:Nat):Int)) (fun i σ G=>∃(ah ae:Option V) (ws:List V),σ=[some (.ref t),some (.int a),some (.int z),some (.int (((v.map V.int).length:Nat):Int)),some (.int (Xs y i).2),some (.int w),some (.int o1),some (.int o2),some (.int ch),some (.ref g),ah,ae]/\G g=some (.lst ws)/\PairsAre K G ws ((Xs y i).1.map fun p=>(p.1,V.int p.2))/\Same H G) ⟨none,none,[],rfl,Y,.nil,Z.trans a6⟩ ?_ ?_
 .rintro i σ G hi ⟨ah,ae,ws,rfl,h7,D,s7⟩
  have aH:i<v.length:=by rw[lc]at hi;lia
  have lv:=Paired.length D
  rw[jQ]at lv
  have lg:=Qbl (Qak y i)
  have aj:Xs y (i+1)=(if (Xs y i).2 % 3<2 then(Xs y i).1++[((i:Int),(Xs y i).2 % 3)]else(Xs y i).1,(Xs y i).2 / 3):=rfl
  rw[aj]
  clear aj
  generalize Xs y i=HT at D lv lg⊢
  obtain⟨hs,C⟩:=HT
  exists 4,_,4,⟨Dc,Dc⟩,fun p hp=>?_
  have x:=Qb hp (.tup [.int (C / 3),.int (C % 3)])
  have X:upd G p (.tup [.int (C / 3),.int (C % 3)]) p=some (.tup [.int (C / 3),.int (C % 3)]):=upd_same
  generalize upd G p (.tup [.int (C / 3),.int (C % 3)])=H8 at x X⊢
  exists p,4,Ql X,rfl,_,4,7,?_
  exists 4,7,4,ite2 (fun c=>?_) (fun c=>?_)
  case refine_2=>
   have c':¬C % 3<2:=fun z=>c (zX z)
   exists some (.int (0+(i:Int))),some (.int (C % 3)),ws,rfl,x _ _ h7,?_,s7.trans x
   rw[Y20 c']
   exact PairsAre.same x D
  have c':C % 3<2:=kZ c
  exists 4,.inl ⟨rfl,_,Qg (x _ _ h7)⟩,4,4,Z1 2,fun tk aA=>?_
  rw[yXc]
  have U:=Qb aA (.tup [.int (i:Int),.int (C % 3)])
  have R:upd H8 tk (.tup [.int (i:Int),.int (C % 3)]) tk=some (.tup [.int (i:Int),.int (C % 3)]):=upd_same
  generalize upd H8 tk (.tup [.int (i:Int),.int (C % 3)])=H9 at U R⊢
  have ab:=U _ _ (x _ _ h7)
  have aG:ws.length=hs.length:=lv
  have aL:hs.length<=i:=lg
  exists g,7,ab,Om,some (.int (i:Int)),some (.int (C % 3)),ws++[.ref tk],rfl,upd_same,?_,fun b o e=>?_
  .rw[Y22 c',kK]
   exact Paired.snoc (PairsAre.updL ab (PairsAre.same (x.trans U) D)) ⟨tk,rfl,Yk ab (Ql R)⟩
  .rw[Qn (Qk e g0)];exact(x.trans U) _ _ (s7 _ _ e)
 .rintro σ G ⟨ah,ae,ws,rfl,h7,D,s7⟩
  rw[show Int.toNat (((v.map V.int).length:Nat):Int)=v.length by rw[lc];rfl]at D
  exists 4,4,Z1 3,fun u B=>?_
  have x:=Qb B (.tup [.str "shut",.int o1,.ref g])
  exact q u (.sht o1 (Xs y v.length).1) _ (dl6 w6).symm (s7.trans x) ⟨g,ws,g0,Ql upd_same,x _ _ h7,PairsAre.same x D⟩ ⟨⟨oa,Om⟩,Qak _ _⟩
theorem Qcy{rs:List Rw}{cs:List Int}{best:Option Int}(a:List Dt):∀(ds:List Dt) (acc:List Rw),(Zf rs cs best ds acc).length=acc.length+ds.length->Zf rs cs best (ds++a) acc=Zf rs cs best a (Zf rs cs best ds acc)
 |[],acc,_=>rfl
 |d::ds,acc,h=>by
  cases e:rowT rs cs best acc d with
  |none=>rw[Qau e]at h;simp at h
  |some row=>
   rw[Zx e]at h
   rw[List.cons_append,Zx e,Zx e]
   refine Qcy a ds (acc++[row]) ?_
   rw[h,yQ]
   simp only[zZ,jKf]
   lia
def LinesAt(K:Fg)(H:Hp):List V->List DL->Prop:=Paired fun v ln=>∃u,v=.ref u/\DLAt K H u ln
theorem LinesAt.same{us:List V}{lns:List DL}(h:LinesAt K H us lns)(s:Same H H'):LinesAt K H' us lns:=Paired.mapP h fun _ _ ⟨u,e,z⟩=>⟨u,e,z.same s⟩
def LinesN(K:Fg)(H0 H:Hp):List V->List DL->Prop:=Paired fun v ln=>∃u,v=.ref u/\DLN K H0 H u ln
theorem LinesN.imp{us:List V}{lns:List DL}(h:LinesN K H0 H us lns)(f:∀u ln,DLN K H0 H u ln->DLN K H0 H' u ln):LinesN K H0 H' us lns:=Paired.mapP h fun _ _ ⟨u,e,w⟩=>⟨u,e,f _ _ w⟩
theorem Qfr(n:Nat)(k:Int):numT n (.int k)=if 0<=k/\k<(n:Int)then some k.toNat else none:=rfl
theorem Qcz(hd:List Rw)(k:Int):numT hd.length (.int k)=if InH hd k then some k.toNat else none:=rfl
theorem numT_c(n:Nat)(k:Int):numT n (.int k)=if Cin n k then some k.toNat else none:=rfl
theorem Qqk(h:Good n hs):Zz n (.lst (hs.map Kv))=some hs:=by
 have e:allT (Km n) (hs.map Kv)=some (hs.map id):=Qbk hs fun p j=>by
  obtain⟨a,b,c⟩:=h.ok p j
  obtain⟨x,y⟩:=p
  have f:0<=x:=a
  have i:x<(n:Int):=b
  have g:y=0\/y=1:=c
  show(match numT n (.int x),numT 2 (.int y)with | some a,some b=>some (((a:Nat):Int),((b:Nat):Int)) | _,_=>none)=some (x,y)
  rw[Qfr,Y22 ⟨f,i⟩]
  have d:((x.toNat:Nat):Int)=x:=Om
  rcases g with z | z<;>subst z
  .show some (((x.toNat:Nat):Int),((0:Nat):Int))=_;rw[d];rfl
  .show some (((x.toNat:Nat):Int),((1:Nat):Int))=_;rw[d];rfl
 rw[List.map_id]at e
 show(allT (Km n) (hs.map Kv)).bind _=_
 rw[e]
 exact Y22 h.nd
theorem Qql{ln:DL}(h:DLok cs.length ln):rowT rs cs best hd (dlD ln)=rowL rs cs best hd ln:=by
 cases ln with
 |giv k=>
  refine(Kc rfl).trans ?_
  show(numT rs.length (.int k)).map (rowK rs)=if InH rs k then some (rowK rs k.toNat)else none
  rw[Qcz]
  by_cases c:InH rs k
  .rw[Y22 c,Y22 c];rfl
  .rw[Y20 c,Y20 c];rfl
 |low k=>
  refine(Kc rfl).trans ?_
  show(numT cs.length (.int k)).map (fun c=>Ya cs.length c 1 0)=if 0<=k/\k<(cs.length:Int)then some (Ya cs.length k.toNat 1 0)else none
  rw[Qfr]
  split<;>rfl
 |high k=>
  refine(Kc rfl).trans ?_
  show(numT cs.length (.int k)).map (fun c=>Ya cs.length c (-1) (-1))=if 0<=k/\k<(cs.length:Int)then some (Ya cs.length k.toNat (-1) (-1))else none
  rw[Qfr]
  split<;>rfl
 |bet=>exact(Kc rfl).trans rfl
 |sm ps=>
  refine(Kc rfl).trans ?_
  show sumD cs.length hd (.lst (ps.map Kv))=if Qdj hd ps then some (Yl cs.length (pI hd ps))else none
  by_cases c:Qdj hd ps
  .have e:allT (Jz hd.length) (ps.map Kv)=some (ps.map fun p=>(p.1.toNat,p.2)):=Qbk ps fun p n=>by
    show(if 0<=p.2 then(numT hd.length (.int p.1)).map fun k=>(k,p.2)else none)=_
    rw[Y22 (h.2 p n).2.1,Qcz,Y22 (c.2 p n)];rfl
   rw[Y22 c]
   cases ps with
   |nil=>exact Y21 rfl c.1
   |cons p r=>
    show(allT (Jz hd.length) ((p::r).map Kv)).map _=_
    rw[e]
    show some (Yl cs.length (partsOf hd ((p::r).map fun p=>(p.1.toNat,p.2))))=_
    unfold partsOf pI
    rw[kXb];rfl
  .rw[Y20 c]
   cases ps with
   |nil=>rfl
   |cons p r=>
    have:¬∀q∈p::r,InH hd q.1:=fun z=>c ⟨fun z=>(nomatch z),z⟩
    obtain⟨q,l⟩:=Classical.not_forall.mp this
    obtain⟨l,u⟩:=Classical.not_imp.mp l
    show(allT (Jz hd.length) ((p::r).map Kv)).map _=_
    rw[Qxi (x:=q) l (by
     show(if 0<=q.2 then(numT hd.length (.int q.1)).map fun k=>(k,q.2)else none)=_
     rw[Y22 (h.2 q l).2.1,Qcz,Y20 u];rfl)]
    rfl
 |shr o b=>
  refine(Kc rfl).trans ?_
  show(if 1<=b then(numT hd.length (.int o)).bind (fun k=>if divides (rowK hd k) b=true then some (Vc (rowK hd k) b)else none)else none)=if InH hd o then shrR (rowK hd o.toNat) b else none
  rw[Y22 h.2.1,Qcz]
  by_cases c:InH hd o
  .rw[Y22 c,Y22 c];rfl
  .rw[Y20 c,Y20 c];rfl
 |sht o f=>
  refine(Kc rfl).trans ?_
  show(numT hd.length (.int o)).bind (fun k=>(Zz cs.length (.lst (f.map Kv))).bind fun f=>if Wn (rowK hd k) f<(rowK hd k).2 then some (Jp cs.length f)else none)=if InH hd o then shtR cs.length (rowK hd o.toNat) f else none
  rw[Qcz,Qqk h.2]
  by_cases c:InH hd o
  .rw[Y22 c,Y22 c];rfl
  .rw[Y20 c,Y20 c];rfl
 |eit o p c=>
  refine(Kc rfl).trans ?_
  show(numT hd.length (.int o)).bind (fun i=>(numT hd.length (.int p)).bind fun j=>(numT cs.length (.int c)).bind fun c=>if Xf (rowK hd i).1 c=Xf (rowK hd j).1 c then some (Js (rowK hd i) (rowK hd j) c)else none)=if InH hd o/\InH hd p/\Cin cs.length c then eitR (rowK hd o.toNat) (rowK hd p.toNat) c.toNat else none
  rw[Qcz,Qcz,numT_c]
  by_cases a:InH hd o
  .by_cases d:InH hd p
   .by_cases g:Cin cs.length c
    .rw[Y22 a,Y22 d,Y22 g,Y22 ⟨a,d,g⟩];rfl
    .refine Eq.trans ?_ (Y20 fun z=>g z.2.2).symm
     rw[Y22 a,Y22 d,Y20 g];rfl
   .refine Eq.trans ?_ (Y20 fun z=>d z.2.1).symm
    rw[Y22 a,Y20 d];rfl
  .refine Eq.trans ?_ (Y20 fun z=>a z.1).symm
   rw[Y20 a];rfl
 |lik t=>
  refine(Kc rfl).trans ?_
  have T:IsTurn cs.length t:=h
  have e:Qad cs.length (.lst ((tI t).map .int))=some t:=by
   have m:allT (numT cs.length) ((tI t).map .int)=some (t.map id):=by
    unfold tI
    rw[kXb]
    exact Qbk t fun k s=>by
     show numT cs.length (.int (k:Int))=_
     have:=T.mem.mp s
     rw[Qfr,Y22 ⟨Om,Om⟩];rfl
   rw[List.map_id]at m
   show(allT (numT cs.length) _).bind _=_
   rw[m]
   exact Y22 ⟨T.nodup,T.length⟩
  show(Qad cs.length (.lst ((tI t).map .int))).bind _=_
  rw[e]
  rfl
theorem Qxn{u:Addr}{ln:DL}(h:DLAt K H u ln):HasT K H (.ref u) (dlD ln):=by
 cases ln with
 |giv k=>exact tupT h (.cons (.str _) (.cons (.int _) .nil))
 |low k=>exact tupT h (.cons (.str _) (.cons (.int _) .nil))
 |high k=>exact tupT h (.cons (.str _) (.cons (.int _) .nil))
 |bet=>exact tupT h (.cons (.str _) .nil)
 |sm ps=>obtain⟨l,d,f,a,e⟩:=h;exact tupT d (.cons (.str _) (.cons (Qvu a e) .nil))
 |shr o b=>exact tupT h (.cons (.str _) (.cons (.int _) (.cons (.int _) .nil)))
 |sht o hs=>obtain⟨l,d,f,a,e⟩:=h;exact tupT d (.cons (.str _) (.cons (.int _) (.cons (Qvu a e) .nil)))
 |eit o p c=>exact tupT h (.cons (.str _) (.cons (.int _) (.cons (.int _) (.cons (.int _) .nil))))
 |lik t=>obtain⟨l,d,a⟩:=h;exact tupT d (.cons (.str _) (.cons (lstT a (.ints _)) .nil))
theorem Ws{k:Int}(h:NB k):Sm (.int k):=.int _ (by have:=h.1;lia) (by have:=h.2;lia)
theorem sm_dl{ln:DL}(i:n<=20)(h:DLok n ln):Sm (dlD ln):=by
 cases ln with
 |giv k=>exact .tup _ (Xr (.str _) (Xr (Ws h) Kw))
 |low k=>exact .tup _ (Xr (.str _) (Xr (Ws h) Kw))
 |high k=>exact .tup _ (Xr (.str _) (Xr (Ws h) Kw))
 |bet=>exact .tup _ (Xr (.str _) Kw)
 |sm ps=>
  refine .tup _ (Xr (.str _) (Xr (.lst _ (by rw[jQ];have:=h.1;lia) fun x d=>?_) Kw))
  obtain⟨p,e,rfl⟩:=zW.mp d
  obtain⟨a,b,c⟩:=h.2 p e
  exact .tup _ (Xr (Ws a) (Xr (Ws ⟨b,Om⟩) Kw))
 |shr o b=>exact .tup _ (Xr (.str _) (Xr (Ws h.1) (Xr (Ws ⟨by have:=h.2.1;lia,by have:=h.2.2;lia⟩) Kw)))
 |sht o hs=>
  have j:=Qbl h.2
  refine .tup _ (Xr (.str _) (Xr (Ws h.1) (Xr (.lst _ (by rw[jQ];lia) fun x d=>?_) Kw)))
  obtain⟨p,e,rfl⟩:=zW.mp d
  obtain⟨a,b,c⟩:=h.2.ok p e
  exact .tup _ (Xr (Ws ⟨a,Om⟩) (Xr (Ws ⟨Om,Om⟩) Kw))
 |eit o p c=>exact .tup _ (Xr (.str _) (Xr (Ws h.1) (Xr (Ws h.2.1) (Xr (Ws h.2.2) Kw))))
 |lik t=>
  have T:IsTurn n t:=h
  refine .tup _ (Xr (.str _) (Xr (.lst _ (by rw[jQ,Vn,T.length];lia) fun x d=>?_) Kw))
  obtain⟨y,g,rfl⟩:=zW.mp d
  obtain⟨k,f,rfl⟩:=zW.mp (show y∈t.map fun(k:Nat)=>(k:Int)from g)
  have:=T.mem.mp f
  exact Ws ⟨Om,Om⟩
inductive Right (rs:List Rw) (cs:List Int) (best:Option Int):List DL->List Rw->Prop
 |nil:Right rs cs best [] []
 |snoc {lns:List DL} {hd:List Rw} {ln:DL} {r:Rw}:Right rs cs best lns hd->DLok cs.length ln->rowL rs cs best hd ln=some r->Right rs cs best (lns++[ln]) (hd++[r])
section
variable{lns:List DL}
theorem Right.length(h:Right rs cs best lns hd):hd.length=lns.length:=by
 induction h with
 |nil=>rfl
 |snoc _ _ _ ih=>rw[yQ,yQ,ih];rfl
theorem Right.at(h:Right rs cs best lns hd):∀{i:Nat} {ln:DL},lns[i]?=some ln->DLok cs.length ln/\∃r,hd[i]?=some r/\rowL rs cs best (hd.take i) ln=some r:=by
 induction h with
 |nil=>intro i l e;cases e
 |@snoc ls hd l' r' h0 ho ht ih=>
  intro i l e
  have a:=h0.length
  by_cases f:i<ls.length
  .rw[jKe f]at e
   obtain⟨o,r,g,c⟩:=ih e
   exists o,r,by rw[jKe Om];exact g,?_
   rw[kKa Om]
   exact c
  .have d:=(jW.mp e).1
   rw[yQ]at d
   have j:([l']:List DL).length=1:=rfl
   have b:i=ls.length:=Om
   subst b
   rw[jKc (jZ _),Nat.sub_self]at e
   cases e
   exists ho,r',by rw[<-a,jKc (jZ _),Nat.sub_self];rfl,?_
   rw[<-a,List.take_left']
   .exact ht
   .rfl
theorem Right.take(h:Right rs cs best lns hd):∀m,Right rs cs best (lns.take m) (hd.take m):=by
 induction h with
 |nil=>intro m;rw[List.take_nil,List.take_nil];exact .nil
 |@snoc ls hd l' r' h0 ho ht ih=>
  intro m
  have a:=h0.length
  by_cases b:m<=ls.length
  .rw[kKa b,kKa Om];exact ih m
  .rw[yW (by rw[yQ];show ls.length+1<=m;lia),yW (by rw[yQ];show hd.length+1<=m;lia)]
   exact .snoc h0 ho ht
theorem Quf{ln:DL}{r:Rw}(a:∀r∈rs,r.1.length=cs.length)(b:∀r∈hd,r.1.length=cs.length)(o:DLok cs.length ln)(h:rowL rs cs best hd ln=some r):r.1.length=cs.length:=by
 rw[<-Qql o]at h
 exact Qky a b h
theorem Right.len(h:Right rs cs best lns hd)(a:∀r∈rs,r.1.length=cs.length):∀r∈hd,r.1.length=cs.length:=by
 induction h with
 |nil=>intro r z;cases z
 |snoc h0 ho ht ih=>
  intro r z
  rcases xW.mp z with y | y
  .exact ih r y
  .rw[kW.mp y];exact Quf a ih ho ht
theorem Right.told(h:Right rs cs best lns hd):Zf rs cs best (lns.map dlD) []=hd:=by
 induction h with
 |nil=>rfl
 |@snoc ls hd l' r' h0 ho ht ih=>
  rw[kK,Qcy _ _ _ (by rw[ih,jQ,h0.length,jKf,Nat.zero_add]),ih]
  have e:rowT rs cs best hd (dlD l')=some r':=by rw[Qql ho];exact ht
  show Zf rs cs best [dlD l'] hd=_
  rw[Zx e]
  rfl
theorem Right.ok(h:Right rs cs best lns hd):∀ln∈lns,DLok cs.length ln:=fun ln a=>by
 obtain⟨i,b,e⟩:=jXb.mp a
 exact(h.at (jW.mpr ⟨b,e⟩)).1
theorem Qla{ln:DL}{r:Rw}(h:rowL rs cs best hd ln=some r):∀k∈ln.names,InH hd k:=by
 intro k a
 cases ln with
 |sm ps=>
  by_cases c:Qdj hd ps
  .obtain⟨p,d,rfl⟩:=zW.mp a
   exact c.2 p d
  .have e:rowL rs cs best hd (.sm ps)=none:=Y20 c
   rw[e]at h;cases h
 |shr o b=>
  rw[kW.mp a]
  exact Classical.byContradiction fun c=>by
   have e:rowL rs cs best hd (.shr o b)=none:=Y20 c
   rw[e]at h;cases h
 |sht o hs=>
  rw[kW.mp a]
  exact Classical.byContradiction fun c=>by
   have e:rowL rs cs best hd (.sht o hs)=none:=Y20 c
   rw[e]at h;cases h
 |eit o p c=>
  have z:InH hd o/\InH hd p/\Cin cs.length c:=Classical.byContradiction fun c=>by
   have e:rowL rs cs best hd (.eit o p _)=none:=Y20 c
   rw[e]at h;cases h
  rcases zK.mp a with e | e
  .rw[e];exact z.1
  .rw[kW.mp e];exact z.2.1
 |giv k=>exact nomatch a
 |low k=>exact nomatch a
 |high k=>exact nomatch a
 |bet=>exact nomatch a
 |lik t=>exact nomatch a
def DL.ren(f:Int->Int):DL->DL
 |.sm ps=>.sm (ps.map fun p=>(f p.1,p.2))
 |.shr o b=>.shr (f o) b
 |.sht o hs=>.sht (f o) hs
 |.eit o p c=>.eit (f o) (f p) c
 |ln=>ln
theorem Wt(f:Int->Int)(a:DL):(a.ren f).names=a.names.map f:=by
 cases a with
 |sm ps=>show(ps.map fun p=>(f p.1,p.2)).map (·.1)=(ps.map (·.1)).map f;rw[kXb,kXb];rfl
 |_=>rfl
theorem Qvw{f:Int->Int}{ln:DL}(h:DLok n ln)(a:∀k∈ln.names,NB (f k)):DLok n (ln.ren f):=by
 cases ln with
 |sm ps=>
  exists by rw[jQ];exact h.1,fun p e=>?_
  obtain⟨q,d,rfl⟩:=zW.mp e
  exists a _ (zW.mpr ⟨q,d,rfl⟩),(h.2 q d).2
 |shr o b=>exists a o (kY ..),h.2
 |sht o hs=>exists a o (kY ..),h.2
 |eit o p c=>exists a o (kY ..),a p (zY _ (kY ..)),h.2.2
 |giv k=>exact h
 |low k=>exact h
 |high k=>exact h
 |bet=>exact h
 |lik t=>exact h
theorem Qqm{f:Int->Int}{hd':List Rw}{ln:DL}(h:∀k∈ln.names,InH hd k->InH hd' (f k)/\rowK hd' (f k).toNat=rowK hd k.toNat){r:Rw}(a:rowL rs cs best hd ln=some r):rowL rs cs best hd' (ln.ren f)=some r:=by
 have d:=Qla a
 cases ln with
 |sm ps=>
  have c:Qdj hd ps:=Classical.byContradiction fun c=>by
   have e:rowL rs cs best hd (.sm ps)=none:=Y20 c
   rw[e]at a;cases a
  have e:rowL rs cs best hd (.sm ps)=some (Yl cs.length (pI hd ps)):=Y22 c
  rw[e]at a
  have n:∀p∈ps,p.1∈(DL.sm ps).names:=fun p g=>zW.mpr ⟨p,g,rfl⟩
  have l:Qdj hd' (ps.map fun p=>(f p.1,p.2)):=⟨fun z=>c.1 (List.map_eq_nil_iff.mp z),fun p g=>by
   obtain⟨q,m,rfl⟩:=zW.mp g
   exact(h q.1 (n q m) (c.2 q m)).1⟩
  have s:pI hd' (ps.map fun p=>(f p.1,p.2))=pI hd ps:=by
   unfold pI
   rw[kXb]
   refine kZd fun p g=>?_
   show(rowK hd' (f p.1).toNat,p.2)=(rowK hd p.1.toNat,p.2)
   rw[(h p.1 (n p g) (c.2 p g)).2]
  show(if Qdj hd' (ps.map fun p=>(f p.1,p.2))then some (Yl cs.length (pI hd' (ps.map fun p=>(f p.1,p.2))))else none)=some r
  rw[Y22 l,s];exact a
 |shr o b=>
  have c:=d o (kY ..)
  obtain⟨j,i⟩:=h o (kY ..) c
  have e:rowL rs cs best hd (.shr o b)=shrR (rowK hd o.toNat) b:=Y22 c
  show(if InH hd' (f o)then shrR (rowK hd' (f o).toNat) b else none)=some r
  rw[Y22 j,i,<-e];exact a
 |sht o hs=>
  have c:=d o (kY ..)
  obtain⟨j,i⟩:=h o (kY ..) c
  have e:rowL rs cs best hd (.sht o hs)=shtR cs.length (rowK hd o.toNat) hs:=Y22 c
  show(if InH hd' (f o)then shtR cs.length (rowK hd' (f o).toNat) hs else none)=some r
  rw[Y22 j,i,<-e];exact a
 |eit o p c=>
  have w:=d o (kY ..)
  have l:=d p (zY _ (kY ..))
  obtain⟨j,i⟩:=h o (kY ..) w
  obtain⟨u,v⟩:=h p (zY _ (kY ..)) l
  have z:InH hd o/\InH hd p/\Cin cs.length c:=Classical.byContradiction fun c=>by
   have e:rowL rs cs best hd (.eit o p _)=none:=Y20 c
   rw[e]at a;cases a
  have e:rowL rs cs best hd (.eit o p c)=eitR (rowK hd o.toNat) (rowK hd p.toNat) c.toNat:=Y22 z
  show(if InH hd' (f o)/\InH hd' (f p)/\Cin cs.length c then eitR (rowK hd' (f o).toNat) (rowK hd' (f p).toNat) c.toNat else none)=some r
  rw[Y22 ⟨j,u,z.2.2⟩,i,v,<-e];exact a
 |giv k=>exact a
 |low k=>exact a
 |high k=>exact a
 |bet=>exact a
 |lik t=>exact a
end
end Nb
variable{ln:Nb.DL}{lns:List Nb.DL}
namespace L2
open PySem PySem.Spec PyProof.Rows PySem.SeqAt
section
variable{prog:Program}
abbrev Rw2:=List Int×Int
def IsRowKey(prog:Program)(w:World)(h:Heap)(r:Rw2)(a:Addr):Prop:=∃o items n p v,h.get? a=some o/\o.cls=.type "tuple"/\o.data=.seq items n/\items.toList=[.ref p,v]/\(intKind prog w).is r.2 v=true/\IsTupleKey (intKind prog w) h r.1 p
theorem IsRowKey.typeIs{r:Rw2}(x:IsRowKey prog w s.heap r a):s.TypeIs (.ref a) "tuple":=by obtain⟨o,_,_,_,_,b,c,_⟩:=x;exists o,b,c
theorem IsRowKey.inj{x y:Rw2}(s:IsRowKey prog w h x a)(z:IsRowKey prog w h y a):x=y:=by
 obtain⟨o,g,n,p,v,t,_,m,l,hv,u⟩:=s
 obtain⟨q,d,C,A,B,f,_,b,c,k,e⟩:=z
 obtain rfl:o=q:=Y5 (t.symm.trans f)
 rw[m]at b
 injection b with r _
 subst r
 rw[l]at c
 injection c with i j
 injection i with i
 injection j with j
 subst i j
 exact Prod.ext (u.inj e) ((intKind prog w).inj _ _ _ hv k)
theorem IsRowKey.keeps{r:Rw2}{d:Addr}{o:Obj}{es ep}(x:IsRowKey prog w h r a)(j:h.get? d=some o)(hd:o.data=.dict es ep)(i:Heap.SameBut d h h'):IsRowKey prog w h' r a:=by
 obtain⟨g,b,n,p,v,e,k,c,l,hv,m⟩:=x
 have f:a≠d:=by
  rintro rfl
  obtain rfl:g=o:=Y5 (e.symm.trans j)
  rw[hd]at c;exact nomatch c
 exists g,b,n,p,v,(i.2 a f).trans e,k,c,l,hv,m.keeps j hd i
def Yp(prog:Program)(w:World)(r:Rw2):Int:=reduceHash (Builtin.Tuple.tupleHashOf [tupleKeyHash (intKind prog w) r.1,(intKind prog w).hash r.2])
theorem Kj{r:Rw2}{Q:Int->Shared->Prop}(m:A.units+1<cLine)(k:IsRowKey prog w s.heap r a)(h:Q (Yp prog w r) { s with toks:=s.toks+(r.1.length+3) }) :
  qe prog w A (pyHash (.ref a)) Q E s:=by
 have g:=k.typeIs
 obtain⟨o,j,n,p,v,q,_,l,t,hv,u⟩:=k
 unfold pyHash
 first | unfold pyHashByItsType | skip
 first | refine jX (wpAny_cRoomFor_or (.inr Om) ?_) | skip
 refine jX (wpAny_specialOf g F.slot_tuple_hash.lookup ?_)
 show wpAny _ _ (if (some (Value.builtin "tuple.__hash__") == some Value.none)=true then _ else _) Q E s
 rw[Y20 (by rw[beq_builtin_none];exact yX)]
 refine jX (wpAny_specialOf g F.slot_tuple_hash.lookup ?_)
 show wpAny _ _ (callSpecialIfBoundUnlessNone? (.ref a) "__hash__" _ >>= _) Q E s
 refine jX (wpAny_callSpecialIfBoundUnlessNone?_slot g F.slot_tuple_hash (Y25 F.slot_tuple_hash g F.entry_tuple_hash ?_ (F.args_tuple_hash_1 _)))
 show wpAny _ _ (Builtin.Tuple.tupleItemsOf (.ref a) >>= _) _ _ s
 refine jX (wpAny_tupleItemsOf q l ?_)
 refine jX ?_
 rw[<-jKd,t]
 refine wpAny_forIn_list _
  (fun c (b:Array Int) f=>(c=[.ref p,v]/\b.toList=[]/\f=s)\/(c=[v]/\b.toList=[tupleKeyHash (intKind prog w) r.1]/\f={ s with toks:=s.toks+(r.1.length+1) })\/(c=[]/\b.toList=[tupleKeyHash (intKind prog w) r.1,(intKind prog w).hash r.2]/\f={ s with toks:=s.toks+(r.1.length+1)+1 }))
  _ ?_ ?_ _ _ (.inl ⟨rfl,rfl,rfl⟩)
 .rintro x c b f (⟨e,d,rfl⟩ | ⟨e,d,rfl⟩ | ⟨e,_⟩)
  .cases e
   refine jX (wpAny_pyHash_tuple (knd:=intKind prog w) (by show A.units+1<cLine;exact m) u ?_)
   first
    |exact jK (.inr (.inl ⟨rfl,by simp[d],rfl⟩))
    |exact jX (jK (jK (.inr (.inl ⟨rfl,by simp[d],rfl⟩))))
  .cases e
   refine jX ((intKind prog w).pyHash hv ?_)
   first
    |exact jK (.inr (.inr ⟨rfl,by simp[d],rfl⟩))
    |exact jX (jK (jK (.inr (.inr ⟨rfl,by simp[d],rfl⟩))))
  .cases e
 .rintro b f (⟨e,d,rfl⟩ | ⟨e,d,rfl⟩ | ⟨e,d,rfl⟩)
  .cases e
  .cases e
  show wpAny _ _ (retInt (Builtin.Tuple.tupleHashOf b.toList)) _ _ _
  rw[d]
  refine wpAny_ret_mkInt ?_
  show wpAny _ _ (if (decide (-(2:Int) ^ 63<=Builtin.Tuple.tupleHashOf _)&&decide (Builtin.Tuple.tupleHashOf _<2 ^ 63))=true then _ else _) Q E _
  unfold Yp reduceHash at h
  generalize Builtin.Tuple.tupleHashOf [tupleKeyHash (intKind prog w) r.1,(intKind prog w).hash r.2]=T at h⊢
  by_cases i:(decide (-(2:Int) ^ 63<=T)&&decide (T<2 ^ 63))=true
  .rw[Y22 i]
   rw[Y22 i]at h
   exact jK (by simpa[kJe]using h)
  .rw[Y20 i]
   rw[Y20 i]at h
   exact jX (wpAny_rule (jK (by simpa[kJe]using h)))
theorem Qji{x y:Rw2}{P:PySem.Fin->Shared->Prop}(I:A.units<cLine)(L:IsRowKey prog w s.heap x a)(G:IsRowKey prog w s.heap y b)(h:P (.done (.ret (.bool (decide (x=y))))) s) :
  qe prog w A (Builtin.«tuple.__eq__» ⟨[.ref a,.ref b],[]⟩) P E s:=by
 have n:=G.typeIs
 obtain⟨R,F,T,H,B,o,_,p,g,q,t⟩:=L
 obtain⟨N,D,O,M,C,hob,_,m,f,l,j⟩:=G
 show wpAny _ _ (isInstance (.ref b) (.type "tuple") >>= _) _ _ s
 refine jX (wpAny_isInstance n isSubtype_tuple_tuple ?_)
 simp only[jQe,yZ,if_false]
 refine jX (wpAny_tupleItemsOf o p ?_)
 refine jX (wpAny_tupleItemsOf hob m ?_)
 refine jX ?_
 rw[g,f]
 refine wpAny_forIn_list _
  (fun c r i=>r.1=none/\i=s/\(c=[(Value.ref H,Value.ref M),(B,C)]\/(c=[(B,C)]/\x.1=y.1)\/(c=[]/\x=y)))
  _ ?_ ?_ _ _ ⟨rfl,rfl,.inl rfl⟩
 .rintro⟨u,v⟩ c r i ⟨k,rfl,e | ⟨e,K⟩ | ⟨e,_⟩⟩
  .cases e
   refine jX (wpAny_eqBool_tuple (knd:=intKind prog w) I t j ?_)
   by_cases d:x.1=y.1
   .rw[zX d]
    simp only[jQe,yZ,if_false]
    exact jK ⟨rfl,rfl,.inr (.inl ⟨trivial,d⟩)⟩
   .rw[zJ d]
    simp only[yZa,if_true]
    rw[zJ (fun z=>d (by rw[z]))]at h
    exact jX (jK (jK (jK h)))
  .cases e
   refine jX ((intKind prog w).eqBool (a:=x.2) (b:=y.2) q l ?_)
   by_cases d:x.2=y.2
   .rw[zX d]
    simp only[jQe,yZ,if_false]
    exact jK ⟨rfl,rfl,.inr (.inr ⟨trivial,Prod.ext K d⟩)⟩
   .rw[zJ d]
    simp only[yZa,if_true]
    rw[zJ (fun z=>d (by rw[z]))]at h
    exact jX (jK (jK (jK h)))
  .cases e
 .rintro⟨S,Q⟩ i ⟨k,rfl,e | ⟨e,_⟩ | ⟨_,e⟩⟩
  .cases e
  .cases e
  simp only at k
  subst k
  refine jK ?_
  have J:(F.size == D.size)=true:=by
   rw[<-xX,<-xX,g,f];rfl
  show P (.done (.ret (.bool (F.size == D.size)))) i
  rw[J]
  rw[zX e]at h
  exact h
theorem Kk{x y:Rw2}(g:A.units+1<cLine)(d:IsRowKey prog w s.heap x a)(f:IsRowKey prog w s.heap y b)(h:Q (decide (x=y)) s) :
  qe prog w A (eqBool (.ref a) (.ref b)) Q E s:=by
 unfold eqBool
 try with_reducible refine Y30 ?_
 show wpAny _ _ (if (Value.ref a == Value.ref b)=true then _ else _) Q E s
 by_cases c:(Value.ref a == Value.ref b)=true
 .rw[Y22 c]
  have e:a=b:=by have:=eq_of_beq c;injection this
  subst e
  obtain rfl:=d.inj f
  exact jX (wpAny_rule (jK (by simpa using h)))
 .rw[Y20 c]
  exact jX (wpAny_richCompare_same_room (op:=.Eq) d.typeIs f.typeIs F.slot_tuple_eq
   (Y25 F.slot_tuple_eq d.typeIs F.entry_tuple_eq (Qji (by show A.units+1<cLine;exact g) d f ⟨_,rfl,(fun e=>nomatch e),Y31 h⟩) (F.args_tuple_eq_2 _ _)) Om)
theorem Qhv(i:IsTupleKey (intKind prog w) s.heap ks a)(h:Q true s):qe prog w A (eqIsQuiet 7 (.ref a)) Q E s:=by
 have j:=i.typeIs
 obtain⟨o,d,n,l,_,k,m⟩:=i
 unfold eqIsQuiet
 refine jX (wpAny_specialOf j F.slot_tuple_eq.lookup ?_)
 show wpAny _ _ (isInstance (.ref a) (.type "tuple") >>= _) _ _ s
 refine jX (wpAny_isInstance j isSubtype_tuple_tuple ?_)
 simp only[jQe,yZ,if_false]
 refine jX (wpAny_seqItems l k ?_)
 refine jX ?_
 show wpAny _ _ (forIn d _ _) _ _ s
 rw[<-jKd]
 refine wpAny_forIn_list _ (fun b r g=>r.1=none/\g=s/\∀v∈b,carriedByValue v=true) _ ?_ ?_ _ _ ⟨rfl,rfl,m.byValue⟩
 .rintro v b r g ⟨f,rfl,c⟩
  rw[eqIsQuiet_byValue _ (c v kY)]
  refine jX (jK ?_)
  simp only[jQe,yZ,if_false]
  exact jK ⟨rfl,rfl,fun u e=>c u (zY _ e)⟩
 .rintro⟨q,p⟩ g ⟨f,rfl,_⟩
  simp only at f
  subst f
  exact jK h
theorem Ji{r:Rw2}(g:IsRowKey prog w s.heap r a)(h:Q true s):qe prog w A (eqIsQuiet 8 (.ref a)) Q E s:=by
 have i:=g.typeIs
 obtain⟨o,c,n,p,v,k,_,j,l,hv,m⟩:=g
 unfold eqIsQuiet
 refine jX (wpAny_specialOf i F.slot_tuple_eq.lookup ?_)
 show wpAny _ _ (isInstance (.ref a) (.type "tuple") >>= _) _ _ s
 refine jX (wpAny_isInstance i isSubtype_tuple_tuple ?_)
 simp only[jQe,yZ,if_false]
 refine jX (wpAny_seqItems k j ?_)
 refine jX ?_
 show wpAny _ _ (forIn c _ _) _ _ s
 rw[<-jKd,l]
 refine wpAny_forIn_list _ (fun b q d=>q.1=none/\d=s/\(b=[.ref p,v]\/b=[v]\/b=[])) _ ?_ ?_ _ _ ⟨rfl,rfl,.inl rfl⟩
 .rintro u b q d ⟨f,rfl,e | e | e⟩
  .cases e
   refine jX (Qhv m ?_)
   simp only[jQe,yZ,if_false]
   exact jK ⟨rfl,rfl,.inr (.inl trivial)⟩
  .cases e
   rw[eqIsQuiet_byValue _ ((intKind prog w).byValue _ _ hv)]
   refine jX (jK ?_)
   simp only[jQe,yZ,if_false]
   exact jK ⟨rfl,rfl,.inr (.inr trivial)⟩
  .cases e
 .rintro⟨x,t⟩ d ⟨f,rfl,_⟩
  simp only at f
  subst f
  exact jK h
end
def Qal(prog:Program)(w:World):HeapKind prog w Rw2 where
 is:=IsRowKey prog w
 hash:=Yp prog w
 draws:=fun r=>r.1.length+3
 room:=fun A=>A.units+1<cLine
 inj:=fun hx hy=>hx.inj hy
 keeps:=fun x ho hd hs=>x.keeps ho hd hs
 pyHash:=fun hu hk h=>Kj hu hk h
 eqBool:=fun hu hx hy h=>Kk hu hx hy h
 quiet:=fun hk h=>Ji hk h
abbrev KR(K:Fg)(H:Hp):List (Rw2×V)->List (Rw2×Addr×Value)->Prop:=Paired fun p q=>p.1=q.1/\Nb.RowAt K H q.2.1 p.1/\RelV p.2 q.2.2
section
variable{kvs:List (Rw2×V)}{xs:List (Rw2×Addr×Value)}
theorem KR.val(r:KR K H kvs xs)(k:Rw2):RelO (valV kvs k) ((atKey xs k).map (·.2)):=by
 induction r with
 |nil=>exact True.intro
 |@cons p q ps qs h t ih=>
  obtain⟨c,_,d⟩:=h
  by_cases e:p.1=k
  .have a:q.1=k:=c.symm.trans e
   have b:atKey (q::qs) k=some q.2:=by simp[atKey,jZf,a]
   rw[Zb e,b];exact d
  .have a:¬q.1=k:=fun z=>e (c.trans z)
   have b:atKey (q::qs) k=atKey qs k:=by simp[atKey,jZf,a]
   rw[Zc e,b];exact ih
theorem KR.imp(r:KR K H kvs xs)(f:∀t q,Nb.RowAt K H t q->Nb.RowAt K H' t q):KR K H' kvs xs:=Paired.mapP r fun _ _ z=>⟨z.1,f _ _ z.2.1,z.2.2⟩
theorem KR.keys(r:KR K H kvs xs):xs.map (·.1)=kvs.map (·.1):=by
 induction r with
 |nil=>rfl
 |cons z _ ih=>rw[xZ,xZ,ih,z.1]
end
def RDo(d:Addr)(o:Obj):HO:=.ext fun h=>h.get? d=some o
structure RD(P:Program)(w:World)(K:Fg)(H:Hp)(d:Addr)(kvs:List (Rw2×V)):Prop where
 ex:∃(o:Obj) (es:Array DictEntry) (ep:Nat) (xs:List (Rw2×Addr×Value)),H d=some (RDo d o)/\o.ExactDict/\o.data=.dict es ep/\es.toList=xs.map (entryOfKey (Qal P w))/\KR K H kvs xs
 sys:(d == sysModules)=false
 len:kvs.length<=sizeLine
 nd:(kvs.map (·.1)).Nodup
theorem RD.keep{d:Addr}{kvs:List (Rw2×V)}(r:RD P w K H d kvs)(e:H' d=H d)(f:∀t q,Nb.RowAt K H t q->Nb.RowAt K H' t q):RD P w K H' d kvs:=by
 obtain⟨⟨o,h,m,j,n,i,g,l,k⟩,a,b,c⟩:=r
 exists ⟨o,h,m,j,by rw[e];exact n,i,g,l,k.imp f⟩,a,b,c
theorem RD.same{d:Addr}{kvs:List (Rw2×V)}(r:RD P w K H d kvs)(s:Same H H'):RD P w K H' d kvs:=by
 obtain⟨o,c,e,b,a,_⟩:=r.ex
 exact r.keep (by rw[s _ _ a,a]) fun _ _ z=>z.same s
theorem RD.updL{d:Addr}{kvs:List (Rw2×V)}(r:RD P w K H d kvs)(a:H g=some (.lst xs)):RD P w K (upd H g (.lst ys)) d kvs:=by
 obtain⟨o,c,e,f,b,_⟩:=r.ex
 exact r.keep (Qn (Qdg b a (by intro z;cases z))) fun _ _ z=>z.upd a
section
variable{kvs:List (Rw2×V)}{k:Rw2}
theorem Qlb{P:Program}{w:World}:∀{ks:List Int} {us:List Value},Vals (ks.map V.int) us->ItemsAre (intKind P w) ks us
 |[],_,r=>by rw[kYe]at r;cases r;exact .nil
 |k::ks,_,r=>by
  rw[xZ]at r
  cases r with
  |cons h t=>obtain⟨a,rfl⟩:=h;exact .cons (by simp[intKind,Value.isInt]) (Qlb t)
theorem Qfs(I:qI H s)(h:Nb.RowAt X.K H b k):(Qal X.prog X.w).is s.heap k b:=by
 obtain⟨p,j,v⟩:=h
 obtain⟨u,q,⟨o,l,m,n,r⟩,_⟩:=I.tuple j
 obtain⟨e,a,⟨i,f,g,x,t⟩,_⟩:=I.tuple v
 obtain⟨y,z,rfl,d,c⟩:=q.two
 cases d
 obtain⟨A,rfl⟩:=c
 exists o,_,n,p,_,l,m,r,rfl,by simp[intKind,Value.isInt],⟨i,_,x,f,g,t,by simpa using Qlb a⟩
theorem Qjj(I:qI H s)(r:RD X.prog X.w X.K H a kvs):∃xs,KR X.K H kvs xs/\s.heap.DictOfH (Qal X.prog X.w) a xs:=by
 obtain⟨o,d,h,xs,j,f,c,g,b⟩:=r.ex
 obtain⟨i,_⟩:=(show ObjOk X.prog X.w H s.heap a (RDo a o)from I.hok a _ j)
 exists xs,b,o,d,h,i,f,c,g,?_,by rw[b.keys];exact r.nd
 have all:∀{l:List (Rw2×V)} {m:List (Rw2×Addr×Value)},KR X.K H l m->∀x∈m,(Qal X.prog X.w).is s.heap x.1 x.2.1:=by
  intro l m q
  induction q with
  |nil=>intro x hx;exact nomatch hx
  |@cons p q ps qs hq t ih=>
   intro x hx
   rcases zK.mp hx with e | hx
   .subst e
    exact Qfs I (by rw[<-hq.1];exact hq.2.1)
   .exact ih x hx
 exact fun x hx=>all b x hx
theorem rd_at(I:qI H s)(r:RD X.prog X.w X.K H a kvs):s.TypeIs (.ref a) "dict"/\(∀b,Value.ref a=.ref b->∃ob,s.heap.get? b=some ob/\ob.dict=none)/\(a == sysModules)=false:=by
 obtain⟨f,_,c⟩:=Qjj I r
 exists c.typeIs,fun b q=>?_,r.sys
 cases q
 obtain⟨ob,_,_,e,d,_⟩:=c
 exists ob,e,d.2.1
theorem Qlc(a:A.units+2<cLine):(Qal X.prog X.w).room A.in1:=by show A.units+1+1<cLine;lia
end
section
variable{o:Expr}{td ty:TE}
def tRNew(P:Program)(w:World)(K:Fg):TE:=fun _ H Q=>∀p ob,H p=none->RD P w K (upd H p ob) p []->Q (.ref p) (upd H p ob)
theorem Qxo:PE X (.Dict [] [] pos) (tRNew X.prog X.w X.K):=fun b s f H Q I h=>by
 refine wpAny_Dict_empty ⟨.ref (qa s),_,I.laid (a:=(qa s)) (o:=RDo (qa s) { cls:=.type "dict",data:=.dict #[] }) (t':=s.toks) (fun _ _ q=>jV _ q) (jZ _) ⟨yJ _ rfl,⟨_,yJ _ rfl⟩,fun g e d c=>c _ d⟩,rfl,h _ _ (I.hok.fresh (jZ _)) ?_⟩
 exists ⟨_,#[],0,[],upd_same,⟨rfl,rfl,rfl⟩,rfl,rfl,.nil⟩,beq_eq_false_iff_ne.mpr (Ne.symm (zV I.big)),jQf _,yQa
def tRGet(P:Program)(w:World)(K:Fg)(td ty:TE):TE:=fun σ H Q=>td σ H fun x H1=>ty σ H1 fun y H2=>∃a b kvs k v,x=.ref a/\y=.ref b/\RD P w K H2 a kvs/\Nb.RowAt K H2 b k/\valV kvs k=some v/\Q v H2
theorem Qxp(z:X.A.units+2<cLine)(N:PE X o td)(C:PE X e ty)(G:NoSl e):PE X (.Subscript o e pos) (tRGet X.prog X.w X.K td ty):=by
 intro c s n H Q I h
 refine Qwu PySem.F.slot_dict_getitem.lookup G (thn (N c s n H _ I h) fun u s1 ⟨x,H1,I1,rx,q1⟩=>thn (C c s1 n H1 _ I1 q1) fun E T f=>?_)
 obtain⟨y,O,j,B,a,b,t,k,v,M,r,g,J,l,D⟩:=f
 subst M r
 obtain rfl:u=Value.ref a:=rx
 cases(show E=Value.ref b from B)
 obtain⟨R,m,q⟩:=Qjj j g
 obtain⟨S,L,d⟩:=RelO.some_of (v:=v) (o:=(atKey R k).map (·.2)) (by rw[<-l];exact m.val k)
 obtain⟨p,P,i⟩:=zQ.mp L
 exists q.typeIs,wpAny_getItem_heap (Qlc (X:=X) z) (Qfs j J) q P ?_
 rw[i]
 exists v,O,j.tok _,d,D
end
section
variable{prog:Program}{K:Type}[DecidableEq K]{knd:HeapKind prog w K}{d:Addr}{k:K}{xs:List (K×Addr×Value)}
theorem Qxq{v:Value}{Q:VP}(t:knd.room A)(b:knd.is s.heap k a)(F:s.heap.DictOfH knd d xs)(hz:xs.length<=sizeLine)
  (z:∀p,atKey xs k=some p->Q p.2 { s with toks:=s.toks+knd.draws k })
  (B:atKey xs k=none->∀h',h'.DictOfH knd d (xs++[(k,a,v)])->Heap.SameBut d s.heap h'->Q v { s with heap:=h',toks:=s.toks+knd.draws k }) :
  qe prog w A (dictSetDefault d (.ref a) v) Q E s:=by
 obtain⟨o,G,D,n,u,f,q,g,r⟩:=F
 unfold dictSetDefault
 try with_reducible refine Y30 ?_
 refine jX (knd.pyHash t b (jX (wpAny_dictFind_heap (s:={ s with toks:=s.toks+knd.draws k }) t b n f q g r (fun c=>?_) fun j p i=>?_)))
 .have l:k∉xs.map (·.1):=not_mem_keys_of_get c
  have kept:∀{x:K×Addr×Value},x∈xs++[(k,a,v)]->knd.is s.heap x.1 x.2.1:=fun{x} m=>by
   rcases xW.mp m with y | y
   .exact g x y
   .rw[kW.mp y];exact b
  refine jX (wpAny_rule (jX (wpAny_updateDictKeys (hz:=by have e:=size_of_entries q;lia) (s:={ s with toks:=s.toks+knd.draws k }) n f (jK ?_))))
  refine B (atKey_none_of_get c) _ ⟨_,_,D+1,jJa _ n (Obj.isFreed_of_dict (Obj.data_mapDictKeys f _)),u.mapDictKeys _,Obj.data_mapDictKeys f _,?_,fun x m=>knd.keeps (kept m) n f (Heap.SameBut.update ..),?_⟩ (Heap.SameBut.update ..)
  .simp[q,entryOfKey]
  .rw[kK,List.nodup_append]
   exists r,by simp,fun x m y C e=>l (by rw[show k=y from(kW.mp C).symm,<-e];exact m)
 .refine jX (wpAny_dictEntries (s:={ s with toks:=s.toks+knd.draws k }) n f ?_)
  rw[entry_at q j,i]
  exact jX (wpAny_rule (jK (z _ (atKey_of_get r i))))
theorem Qxr(hd:(d == sysModules)=false)(b:Value) :
  MeetsIn prog w (Builtin.«dict.setdefault» ⟨[.ref d,.ref a,b],[]⟩) (fun A R s=>knd.room A.in1/\∃k xs,knd.is s.heap k a/\s.heap.DictOfH knd d xs/\xs.length<=sizeLine /\
   (∀p,atKey xs k=some p->R (.ok (.ret p.2)) { s with toks:=s.toks+knd.draws k }) /\
   (atKey xs k=none->∀h',h'.DictOfH knd d (xs++[(k,a,b)])->Heap.SameBut d s.heap h'->R (.ok (.ret b)) { s with heap:=h',toks:=s.toks+knd.draws k })) :=
 .of_wp fun A R s ⟨hu,k,xs,hkey,hm,hz,h1,h2⟩=>by
  unfold Builtin.«dict.setdefault»
  refine jX ?_
  unfold Builtin.Dict.keyAndDefault
  refine jX (wpAny_notOrdered_dict hm.typeIs (jK ?_))
  show wpAny _ _ (if (d == sysModules)=true then _ else(dictSetDefault d (.ref a) b >>= _)) _ _ s
  rw[Y20 (by rw[hd];exact yX)]
  exact jX (Qxq hu hkey hm hz (fun p g=>jK ⟨p.2,rfl,h1 p g⟩) fun f h' c e=>jK ⟨b,rfl,h2 f h' c e⟩)
end
section
variable{apos cpos:Pos}{o f:Expr}{td ty tx:TE}
def tRSd(P:Program)(w:World)(K:Fg)(td ty tx:TE):TE:=fun σ H Q=>td σ H fun x H1=>∃a kvs1,x=.ref a/\RD P w K H1 a kvs1/\ty σ H1 fun y H2=>tx σ H2 fun z H3=>∃b kvs k,y=.ref b/\RD P w K H3 a kvs/\Nb.RowAt K H3 b k/\kvs.length<sizeLine /\
 (∀v,valV kvs k=some v->Q v H3)/\(valV kvs k=none->∀ob,RD P w K (upd H3 a ob) a (kvs++[(k,z)])->(∀t q,Nb.RowAt K H3 t q->Nb.RowAt K (upd H3 a ob) t q)->Q z (upd H3 a ob))
theorem pe_rsd(hu:X.A.units+2<cLine)(ho:PE X o td)(he:PE X e ty)(hf:PE X f tx)(m:M2 X o "setdefault" apos e f cpos):PE X (.Call (.Attribute o "setdefault" apos) [e,f] [] cpos) (tRSd X.prog X.w X.K td ty tx):=by
 intro j s L H Q I h
 refine wpAny_Call_method m.base m.few m.line PySem.F.plainAttrs_dict PySem.F.slot_dict_setdefault PySem.F.type_dict_setdefault (thn (ho j s L H _ I h) fun u s1 N=>?_)
 obtain⟨x,H1,T,rx,a,W,ex,d,D⟩:=N
 subst ex
 obtain rfl:u=Value.ref a:=rx
 obtain⟨t1,t2,_⟩:=rd_at T d
 exists t1,t2,?_
 rw[m.trees]
 refine Calls.callWith_builtin rfl (Calls.evalArgs_plain (Calls.spliced_cons (thn (he j s1 L H1 _ T D) fun iv s2 ⟨y,H2,I2,ry,G⟩=>
  Calls.spliced_cons (thn (hf j s2 L H2 _ I2 G) fun fv s3 ⟨z,H3,I3,U,b,i,k,ey,g,hk,hl,q3,q4⟩=>Calls.spliced_nil ?_))))
 subst ey
 cases(show iv=Value.ref b from ry)
 obtain⟨Z,n,dd⟩:=Qjj I3 g
 obtain⟨aa,_,_,_,E,_⟩:=g.ex
 have lx:=Paired.length n
 refine call_meetsIn PySem.F.slot_dict_setdefault dd.typeIs PySem.F.entry_dict_setdefault (PySem.F.args_dict_setdefault_3 _ _ _) (Qxr (knd:=Qal X.prog X.w) (d:=a) (a:=b) g.sys fv) ⟨Qlc (X:=X) hu,k,Z,Qfs I3 hk,dd,Om,fun p hp=>?_,fun R h' O S=>?_⟩
 .have l:=n.val k
  rw[hp]at l
  obtain⟨v,ev,M⟩:∃v,valV i k=some v/\RelV v p.2:=by
   cases C:valV i k with
   |none=>rw[C]at l;exact Y21 l (fun z=>z)
   |some v=>rw[C]at l;exists v,rfl,l
  exists v,H3,I3.tok _,M,q3 v ev
 .have l:=n.val k
  rw[R]at l
  have en:valV i k=none:=by
   cases C:valV i k with
   |none=>rfl
   |some v=>rw[C]at l;exact Y21 l (fun z=>z)
  obtain⟨q,es,ep,J,Y,h3,h4,h6,h5⟩:=O
  have V:∀t r,Nb.RowAt X.K H3 t r->Nb.RowAt X.K (upd H3 a (RDo a q)) t r:=fun t r ⟨p,z1,z2⟩=>by
   have f:∀{c ys},SqT X.K H3 c ys->SqT X.K (upd H3 a (RDo a q)) c ys:=fun{c ys} z=>by
    rcases z with(z | ⟨o',z⟩) | z
    .exact .inl (.inl (by rw[Qn (Qdg z E (by intro w;cases w))];exact z))
    .exact .inl (.inr ⟨o',by rw[Qn (Qdg z E (by intro w;cases w))];exact z⟩)
    .exact .inr z
   exists p,f z1,f z2
  have B:KR X.K H3 (i++[(k,z)]) (Z++[(k,b,fv)]):=Paired.snoc n ⟨rfl,hk,U⟩
  have P:((i++[(k,z)]).map (·.1)).Nodup:=by
   rw[<-B.keys];exact h5
  exists z,_,Qca (ob:=RDo a q) I3 (by rw[E];exact True.intro) S ⟨q,J⟩ ⟨J,⟨q,J⟩,fun h1 Y D G=>G _ D⟩,U,q4 en _ ⟨⟨q,es,ep,_,upd_same,Y,h3,h4,B.imp V⟩,g.sys,by rw[yQ];exact hl,P⟩ V
def rIxD:R2:=fun x y H Q=>∃a kvs k v,x=.ref a/\y=.int k/\H a=some (.dK kvs)/\valV kvs (Sum.inl k)=some v/\Q v H
theorem ix_dk(B:X.A.units+1<cLine):IxR X rIxD:=by
 intro d f c s l H x y v u Q I n D h t
 obtain⟨a,p,k,z,rfl,rfl,G,e,q⟩:=h
 cases n
 have g:DGet H a (.int k) (some z):=by rw[<-e];exact DGet.k (k:=Sum.inl k) G
 have m:=Qip I g
 unfold subscriptTail
 refine jX ?_
 rw[getitemInPython_of_ne m.not_modules]
 refine jX (wpAny_specialOf m PySem.F.slot_dict_getitem.lookup ?_)
 have fin:qd X X.A (subscripted f false (.ref a) u) (fun r b=>qd X X.A (letTemporaryGo d (.ref a) r >>= fun _=>pure r) (EP X c l Q) X.xe b) X.xe s:=by
  rw[t]
  exact wpAny_operating (Y29 (Qoh B I g D fun C E o j=>(⟨z,H,o,j,q⟩:EP X c l Q C E)) (fun r b i=>jX (wpAny_letTemporaryGo (jK i))) fun _ _ x=>x)
 first
  |exact jK (jX fin)
  |exact jX (jK (jX fin))
  |exact jX fin
theorem Qqn(a:X.K=K)(b:X.A.units+1<cLine):IxR X (fun x y H Q=>rIxL K x y H Q\/rIxD x y H Q):=by subst a;exact ix_list.or (ix_dk b)
end
end L2
namespace Nb
open PySem L2
def Few:DL->Prop
 |.sm ps=>ps.length<=100
 |_=>True
def Kd(lns:List DL):Prop:=∀(i:Nat) (ln:DL),lns[i]?=some ln->Few ln/\∀k∈ln.names,0<=k/\k<((i:Nat):Int)
inductive Qqo(K:Fg)(vs:List V)(H:Hp)(Q:VK)(E:XK):Prop|mk(u:Addr)(ln:DL)(_:vs=[.ref u])(_:DLAt K H u ln)(_:Few ln)(_:∀(l:Addr) (H':Hp),Same H H'->H' l=some (.lst (ln.names.map V.int))->Q (.ref l) H'):Qqo K vs H Q E
def nmAt(lns:List DL)(i:Nat):List Int:=((lns[i]?).map DL.names).getD []
def mkd(lns:List DL):Nat->Int->Bool
 |0,p=>decide (p=(lns.length:Int)-1)
 |i+1,p=>mkd lns i p||(mkd lns i ((lns.length:Nat)-1-(i:Int))&&decide (p∈nmAt lns (lns.length-1-i)))
theorem Kx(h:lns[i]?=some ln):nmAt lns i=ln.names:=by unfold nmAt;rw[h];rfl
theorem Qdy{lns:List DL}(b:Kd lns)(d:0<lns.length):∀(i:Nat) (p:Int),mkd lns i p=true->0<=p/\p<(lns.length:Int)
 |0,p,h=>by
  have c:p=(lns.length:Int)-1:=kZ h
  lia
 |i+1,p,h=>by
  have c:(mkd lns i p||(mkd lns i ((lns.length:Nat)-1-(i:Int))&&decide (p∈nmAt lns (lns.length-1-i))))=true:=h
  rcases jZe _ _▸c with h1 | h1
  .exact Qdy b d i p h1
  .have a:=kZ (xV _ _▸h1).2
   cases e:lns[lns.length-1-i]? with
   |none=>unfold nmAt at a;rw[e]at a;exact nomatch a
   |some ln=>
    rw[Kx e]at a
    have f:=(b _ ln e).2 p a
    lia
def dueL(lns:List DL):List Int:=((List.range lns.length).filter fun k:Nat=>mkd lns lns.length (k:Int)).map fun k:Nat=>(k:Int)
theorem Qug{p:Int}(b:mkd lns lns.length p=true->0<=p/\p<(lns.length:Int)):p∈dueL lns↔mkd lns lns.length p=true:=by
 unfold dueL
 rw[zW]
 exists fun⟨k,a,e⟩=>by rw[<-e];exact(jKa.mp a).2,fun h=>?_
 obtain⟨c,d⟩:=b h
 exists p.toNat,jKa.mpr ⟨wZ.mpr Om,?_⟩,Om
 show mkd lns lns.length ((p.toNat:Nat):Int)=true
 rw[show((p.toNat:Nat):Int)=p by lia]
 exact h
theorem Ke(lns:List DL):(dueL lns).Pairwise (· < ·):=by
 unfold dueL
 rw[kYa]
 exact(List.pairwise_lt_range.sublist List.filter_sublist).imp fun h=>Om
theorem Qxs(e:Kd lns)(f:0<lns.length){qs:List Int}(c:ss.Nodup)(g:∀p,p∈ss↔mkd lns lns.length p=true)(d:qs.Perm ss)(i:qs.Pairwise (·<=·)):qs=dueL lns:=by
 refine List.Perm.eq_of_pairwise (le:=(·<=·)) (fun a b _ _ k j=>Om) i ((Ke lns).imp fun h=>Om) (d.trans ?_)
 refine(List.perm_ext_iff_of_nodup c ((Ke lns).imp fun h=>Om)).mpr fun p=>?_
 rw[g,Qug (Qdy e f _ p)]
theorem Quh{k:Int}(h:kvs.map (·.1)=ss.map Sum.inl):∃ss':List Int,(putK kvs (Sum.inl k) v).map (·.1)=ss'.map Sum.inl/\(∀p,p∈ss'↔p∈ss\/p=k)/\(ss.Nodup->ss'.Nodup)/\(ss'=ss\/ss'=ss++[k]):=by
 unfold putK
 by_cases a:(kvs.any fun l=>decide (l.1=Sum.inl k))=true
 .rw[Y22 a]
  have g:k∈ss:=by
   obtain⟨p,d,e⟩:=kJd.mp a
   have b:Sum.inl k∈kvs.map (·.1):=zW.mpr ⟨p,d,kZ e⟩
   rw[h]at b
   obtain⟨x,c,i⟩:=zW.mp b
   rw[<-Sum.inl.inj i];exact c
  exists ss,?_,fun p=>⟨.inl,fun z=>z.elim id fun e=>by rw[e];exact g⟩,id,.inl rfl
  rw[<-h,kXb]
  exact kZd fun p _=>by
   show(if p.1=Sum.inl k then(p.1,v)else p).1=p.1
   split<;>rfl
 .rw[Y20 a]
  exists ss++[k],by rw[kK,kK,h];rfl,fun p=>by rw[xW,kW],fun f=>?_,.inr rfl
  refine List.nodup_append.mpr ⟨f,jYb.mpr ⟨fun z=>(nomatch z),yQa⟩,fun x c y m e=>a ?_⟩
  have j:x=k:=e.trans (kW.mp m)
  have b:Sum.inl k∈kvs.map (·.1):=by rw[h];exact zW.mpr ⟨x,c,by rw[j]⟩
  obtain⟨p,d,n⟩:=zW.mp b
  exact kJd.mpr ⟨p,d,zX n⟩
theorem Qqp{k:Int}(h:kvs.map (·.1)=ss.map Sum.inl):(valV kvs (Sum.inl k)).isSome=true↔k∈ss:=by
 rw[<-Va,kJd]
 constructor
 .rintro⟨p,b,e⟩
  have a:Sum.inl k∈kvs.map (·.1):=zW.mpr ⟨p,b,kZ e⟩
  rw[h]at a
  obtain⟨x,f,d⟩:=zW.mp a
  rw[<-Sum.inl.inj d];exact f
 .intro c
  have a:Sum.inl k∈kvs.map (·.1):=by rw[h];exact zW.mpr ⟨k,c,rfl⟩
  obtain⟨p,b,g⟩:=zW.mp a
  exists p,b,zX g
theorem nd_le{α:Type}[DecidableEq α]:∀{l m:List α},l.Nodup->(∀x∈l,x∈m)->l.length<=m.length
 |[],_,_,_=>jQf _
 |a::l,m,nd,h=>by
  obtain⟨f,d⟩:=jYb.mp nd
  have b:=h a kY
  have:=nd_le (m:=m.erase a) d fun x c=>(List.mem_erase_of_ne (fun e=>f (by rw[<-e];exact c))).mpr (h x (zY _ c))
  rw[kJa b]at this
  have:=yXf b
  rw[zZ]
  lia
theorem Qbm(a:ss.Nodup)(h:∀p∈ss,0<=p/\p<((n:Nat):Int)):ss.length<=n:=by
 have:=nd_le a (m:=(List.range n).map fun k:Nat=>(k:Int)) fun x b=>by
  obtain⟨c,d⟩:=h x b
  exact zW.mpr ⟨x.toNat,wZ.mpr Om,Om⟩
 rwa [jQ,xK]at this
def One(lns:List DL):Prop:=lns.length<64\/∀ln∈lns,ln.names.length<=1
def Falls(ss:List Int)(p:Int):Prop:=ss.Pairwise (fun a b=>b<a)/\∀x∈ss,∀y∈ss,x<=p->y<=p->x=y
theorem Falls.one(x p:Int):Falls [x] p:=⟨List.pairwise_singleton _ _,fun a d b c _ _=>by rw[kW.mp d,kW.mp c]⟩
theorem Falls.less{p q:Int}(h:Falls ss p)(d:q<=p):Falls ss q:=⟨h.1,fun x b y a e c=>h.2 x b y a Om Om⟩
theorem Falls.put{p k:Int}(h:Falls ss p)(i:p∈ss)(j:k<p):Falls (ss++[k]) (p-1):=by
 have d:∀x∈ss,p<=x:=fun x a=>by
  by_cases c:x<=p
  .have:=h.2 x a p i c (kQc _);lia
  .omega
 have e:∀x,x∈ss++[k]->x<=p-1->x=k:=fun x a f=>by
  rcases xW.mp a with z | z
  .have:=d x z;lia
  .exact kW.mp z
 exists List.pairwise_append.mpr ⟨h.1,List.pairwise_singleton _ _,fun x a y b=>by rw[kW.mp b];have:=d x a;lia⟩,fun x a y b f g=>(e x a f).trans (e y b g).symm
inductive Qjk(K:Fg)(vs:List V)(H:Hp)(Q:VK)(E:XK):Prop|mk(L:Addr)(us:List V)(lns:List DL)(_:vs=[.ref L])(_:SqL K H L us)(_:LinesAt K H us lns)(_:Kd lns)(_:lns.length<=2000)(_:One lns)(_:∀(g:Addr) (H':Hp),Same H H'->H g=none->H' g=some (.lst ((dueL lns).map V.int))->Q (.ref g) H'):Qjk K vs H Q E
theorem Qft{us:List V}(h:LinesAt K H us lns)(c:i<lns.length):∃u ln,us[i]?=some (.ref u)/\lns[i]?=some ln/\DLAt K H u ln:=by
 have b:=Paired.length h
 obtain⟨ln,a,u,e,z⟩:=L2.Xx h (gE (show i<us.length by lia))
 exists u,ln,by rw[gE (show i<us.length by lia),e],a,z
def Pls(K:Fg)(H:Hp)(pl:Addr)(f:Int->Int)(ks:List Int):Prop:=(∃ws:List Int,SqL K H pl (ws.map V.int)/\∀k∈ks,0<=k/\ws[k.toNat]?=some (f k))\/∃kvs,H pl=some (.dK kvs)/\∀k∈ks,valV kvs (Sum.inl k)=some (.int (f k))
theorem Pls.same{pl:Addr}{f:Int->Int}(h:Pls K H pl f ks)(s:Same H H'):Pls K H' pl f ks:=h.elim (fun⟨d,a,b⟩=>.inl ⟨d,s.seq a,b⟩) fun⟨c,a,b⟩=>.inr ⟨c,s _ _ a,b⟩
inductive Qxt(K:Fg)(vs:List V)(H:Hp)(Q:VK)(E:XK):Prop|mk(u pl:Addr)(ln:DL)(f:Int->Int)(n:Nat)(_:vs=[.ref u,.ref pl])(_:DLAt K H u ln)(_:DLok n ln)(_:n<=20)(_:Pls K H pl f ln.names)(_:∀(u':Addr) (H':Hp),Same H H'->DLN K H H' u' (ln.ren f)->Q (.ref u') H'):Qxt K vs H Q E
theorem Qhw{pl:Addr}{f:Int->Int}(h:Pls K H pl f ks){k:Int}(d:k∈ks){Q:VK}(q:Q (.int (f k)) H):rIxL K (.ref pl) (.int k) H Q\/rIxD (.ref pl) (.int k) H Q:=by
 rcases h with⟨g,a,b⟩ | ⟨c,a,b⟩
 .obtain⟨i,e⟩:=b k d
  refine .inl ⟨pl,_,_,_,rfl,rfl,a,?_,q⟩
  have:=Zy (xs:=g.map V.int) (j:=k.toNat) (v:=.int (f k)) (by rw[jY,e];rfl)
  rw[show((k.toNat:Nat):Int)=k by lia]at this
  exact this
 .exact .inr ⟨pl,c,k,_,rfl,rfl,a,b k d,q⟩
abbrev Wu:Stmt:=top 13
theorem Qqq:FnScope ["line"] ["line"] (Qf Wu):=Sc
theorem Qqr(F:Fn K mg "named_by" Wu)(M:Mg mg):qC 1 "named_by" ["line"] (Qqo K):=by
 refine Xd F Qqq (fun _ _ _ _ _ _=>bind1 (fun _=>rfl)) (fun vs H Q E h=>?_) (fun f ab A W s H vs Q E hr h=>?_)
 .obtain⟨u,ln,rfl,_⟩:=h
  rfl
 obtain⟨u,ln,rfl,t,R,q⟩:=h
 have a:=Z6 1 hr.un
 refine⟨_,(Qe (Xe (Qq Xz (Qo Qm (pv 0) Qd) Xi (Qt _)) (Qh (Qp (Zv ["place","many"] [none,none] rfl (Xl (Qo Qm (pv 0) Qd)) (fun _ _ _=>(Yg (K:=K) (i:=0) (j:=1) rfl rfl (show(["place","many"]:List Str).Nodup by decide +kernel) rfl rfl rfl rfl)) (fun _ _ _=>Yf) (fun _ _ _=>(pv 0))))) Qr)
  (Qe (Xe (Qq Vx (Qo Qm (pv 0) Qd) (Xh (Qa Xi (Qa Xi Qc))) rfl) (Qh (Qp (Xp (Qa (Qo Qm (pv 0) Qd) Qc)))) Qr)
  (Qh (Qp (Qju (Qq Xz (Qo Qm (pv 0) Qd) Xi (Qt _)) (Qz Ym rfl M.list_ Yj (Qa (Za Qdm (pv 0) (Yt Qd) (Yt Qd)) Qc)) (Xp Qc)))))),?_⟩
 refine Zd ?_;intros
 exists"z"
 cases ln with
 |giv k=>
  have a:SqT K H u _:=t
  exists 4,u,8,a,at0,rfl,4,ite2 (fun e=>Y21 e Dk) (fun _=>?_)
  exists 4,u,8,a,at0,Z1 2,fun T y=>?_
  have m:=Qb y (.tup (qA 0))
  have r:SqT K (upd H T (.tup (qA 0))) T (qA 0):=Ql upd_same
  generalize upd H T (.tup (qA 0))=H1 at m r⊢
  have d:=m.tup a
  exists T,4,.inr r,rfl,rfl,4,ite2 (fun e=>Y21 e Dk) (fun _=>?_)
  exists 4,u,8,d,at0,rfl,4,ite2 (fun e=>Y21 e Dk) (fun _=>?_)
  exists Z1 0,fun g B=>?_
  exact q g _ (m.trans (Qb B _)) upd_same
 |low k=>
  have a:SqT K H u _:=t
  exists 4,u,8,a,at0,rfl,4,ite2 (fun e=>Y21 e Dk) (fun _=>?_)
  exists 4,u,8,a,at0,Z1 2,fun T y=>?_
  have m:=Qb y (.tup (qA 0))
  have r:SqT K (upd H T (.tup (qA 0))) T (qA 0):=Ql upd_same
  generalize upd H T (.tup (qA 0))=H1 at m r⊢
  have d:=m.tup a
  exists T,4,.inr r,rfl,rfl,4,ite2 (fun e=>Y21 e Dk) (fun _=>?_)
  exists 4,u,8,d,at0,rfl,4,ite2 (fun e=>Y21 e Dk) (fun _=>?_)
  exists Z1 0,fun g B=>?_
  exact q g _ (m.trans (Qb B _)) upd_same
 |high k=>
  have a:SqT K H u _:=t
  exists 4,u,8,a,at0,rfl,4,ite2 (fun e=>Y21 e Dk) (fun _=>?_)
  exists 4,u,8,a,at0,Z1 2,fun T y=>?_
  have m:=Qb y (.tup (qA 0))
  have r:SqT K (upd H T (.tup (qA 0))) T (qA 0):=Ql upd_same
  generalize upd H T (.tup (qA 0))=H1 at m r⊢
  have d:=m.tup a
  exists T,4,.inr r,rfl,rfl,4,ite2 (fun e=>Y21 e Dk) (fun _=>?_)
  exists 4,u,8,d,at0,rfl,4,ite2 (fun e=>Y21 e Dk) (fun _=>?_)
  exists Z1 0,fun g B=>?_
  exact q g _ (m.trans (Qb B _)) upd_same
 |bet=>
  have a:SqT K H u _:=t
  exists 4,u,8,a,at10,rfl,4,ite2 (fun e=>Y21 e Dk) (fun _=>?_)
  exists 4,u,8,a,at10,Z1 2,fun T y=>?_
  have m:=Qb y (.tup (qA 0))
  have r:SqT K (upd H T (.tup (qA 0))) T (qA 0):=Ql upd_same
  generalize upd H T (.tup (qA 0))=H1 at m r⊢
  have d:=m.tup a
  exists T,4,.inr r,rfl,rfl,4,ite2 (fun e=>Y21 e Dk) (fun _=>?_)
  exists 4,u,8,d,at10,rfl,4,ite2 (fun e=>Y21 e Dk) (fun _=>?_)
  exists Z1 0,fun g B=>?_
  exact q g _ (m.trans (Qb B _)) upd_same
 |lik ts=>
  obtain⟨l,a,hl⟩:=id t
  exists 4,u,8,a,at0,rfl,4,ite2 (fun e=>Y21 e Dk) (fun _=>?_)
  exists 4,u,8,a,at0,Z1 2,fun T y=>?_
  have m:=Qb y (.tup (qA 0))
  have r:SqT K (upd H T (.tup (qA 0))) T (qA 0):=Ql upd_same
  generalize upd H T (.tup (qA 0))=H1 at m r⊢
  have d:=m.tup a
  exists T,4,.inr r,rfl,rfl,4,ite2 (fun e=>Y21 e Dk) (fun _=>?_)
  exists 4,u,8,d,at0,rfl,4,ite2 (fun e=>Y21 e Dk) (fun _=>?_)
  exists Z1 0,fun g B=>?_
  exact q g _ (m.trans (Qb B _)) upd_same
 |shr o b=>
  have a:SqT K H u _:=t
  exists 4,u,8,a,at30,rfl,4,ite2 (fun e=>Y21 e Dk) (fun _=>?_)
  exists 4,u,8,a,at30,Z1 2,fun T y=>?_
  have m:=Qb y (.tup (qA 0))
  have r:SqT K (upd H T (.tup (qA 0))) T (qA 0):=Ql upd_same
  generalize upd H T (.tup (qA 0))=H1 at m r⊢
  have d:=m.tup a
  exists T,4,.inr r,rfl,rfl,4,ite2 (fun _=>?_) (fun e=>Y21 Dk e)
  exists 4,u,8,d,at31,Z1 1,fun g B=>?_
  exact q g _ (m.trans (Qb B _)) upd_same
 |sht o hs=>
  obtain⟨l,a,hl⟩:=id t
  exists 4,u,8,a,at30,rfl,4,ite2 (fun e=>Y21 e Dk) (fun _=>?_)
  exists 4,u,8,a,at30,Z1 2,fun T y=>?_
  have m:=Qb y (.tup (qA 0))
  have r:SqT K (upd H T (.tup (qA 0))) T (qA 0):=Ql upd_same
  generalize upd H T (.tup (qA 0))=H1 at m r⊢
  have d:=m.tup a
  exists T,4,.inr r,rfl,rfl,4,ite2 (fun _=>?_) (fun e=>Y21 Dk e)
  exists 4,u,8,d,at31,Z1 1,fun g B=>?_
  exact q g _ (m.trans (Qb B _)) upd_same
 |eit o p c=>
  have a:SqT K H u _:=t
  exists 4,u,8,a,at40,rfl,4,ite2 (fun e=>Y21 e Dk) (fun _=>?_)
  exists 4,u,8,a,at40,Z1 2,fun T y=>?_
  have m:=Qb y (.tup (qA 0))
  have r:SqT K (upd H T (.tup (qA 0))) T (qA 0):=Ql upd_same
  generalize upd H T (.tup (qA 0))=H1 at m r⊢
  have d:=m.tup a
  exists T,4,.inr r,rfl,rfl,4,ite2 (fun e=>Y21 e Dk) (fun _=>?_)
  exists 4,u,8,d,at40,rfl,4,ite2 (fun _=>?_) (fun e=>Y21 Dk e)
  exists 4,4,4,u,4,d,fun z=>jQc 0 z.1,fun p1 Y=>?_
  rw[show cutV [V.str "either",.int o,.int p,.int c] (some 1) (some 3)=[.int o,.int p]from rfl]
  have a2:=Qb Y (.tup [.int o,.int p])
  exists p1,4,.inr (Ql upd_same),fun l2 U=>?_
  exact q l2 _ ((m.trans a2).trans (Qb U _)) upd_same
 |sm ps=>
  obtain⟨l,a,Z,G,S⟩:=id t
  have lv:=S.length
  rw[jQ]at lv
  have ad:ps.length<=100:=R
  exists 4,u,8,a,at0,rfl,4,ite2 (fun _=>?_) (fun e=>Y21 Dk e)
  exists 4,u,8,a,at1,l,rfl,⟨_,G⟩,fun D hD=>?_
  let X:Nat->St->List V->Hp->Prop:=fun i O L J=>∃v N:Option V,O=[v,N]/\L=((ps.map (·.1)).take i).map V.int/\J D=some (.lst L)/\Same H J
  refine Ys (n:=ps.length) X ?_ (fun i O L J hi h=>?_) (fun i O L J hi h=>?_) (fun O L J h=>?_) ?_ ?_
  .exact⟨none,none,rfl,rfl,upd_same,Qb hD _⟩
  .obtain⟨v,N,rfl,rfl,I,C⟩:=h
   exists I,by rw[jQ,yY];lia
  .obtain⟨v,N,rfl,rfl,I,C⟩:=h
   exists Z,Z[i]'Om,C.seq G,gE Om
  .obtain⟨v,N,rfl,rfl,I,C⟩:=h
   exists Z,C.seq G,Om
  .rintro i O L J x H3 hi ⟨v,N,rfl,rfl,I,C⟩ ⟨rfl,e1⟩
   obtain⟨T,c,w,rfl,ec,y⟩:=Yo S (e1 _ (C.seq G)) C
   exists T,4,y,rfl,_,4,7,4,I,_,4,?_,upd_same,fun b o e=>?_
   .rw[Zw (show(ps.map (·.1))[i]?=some c by rw[jY,ec];rfl),kK];rfl
   .rw[Qn (Qk e hD)];exact C _ _ e
  rintro O L J ⟨v,N,rfl,rfl,I,C⟩
  rw[yW (by rw[jQ];exact jZ _)]at I
  exact q D J C I
abbrev Qhx:Stmt:=top 39
theorem scRests:FnScope ["paper","wanted","number","other"] ["paper"] (Qf Qhx):=Sc
theorem Qxu(F:Fn K mg "rests_on" Qhx)(M:Mg mg)(t:qC 1 "named_by" ["line"] (Qqo K)):qC 2 "rests_on" ["paper"] (Qjk K):=by
 refine Xd F scRests (a:=fun f ao A ak s H vs Q E hr h=>?_)
 obtain⟨L,us,d,rfl,hL,ad,J,an,ai,q⟩:=h
 have hu:=Z6 1 hr.un
 refine⟨_,(Qe (Xe (Qq Xz (qL (pv 0)) Qd (Qt _)) (Qh (Qp (Xp Qc))) Qr)
  (Qe (Z4 1 scRests.nd (Qww (Qst (Qx Yr (qL (pv 0)) Qd) Qbq Qwv) rfl rfl (List.cons_ne_nil _ _) Dc))
  (Qe (Xy PassesOwn.never rfl (Wd rfl M.range_ (Qa (Qx Yr (qL (pv 0)) Qd) (Qa (Jr Zg Qd) (Qa (Jr Zg Qd) Qc)))) (Z3 2 scRests.nd) (Qh (Xe (Qve (pc_din hu (pv 2) (pv 1))) (Qh (Xy PassesOwn.never rfl (Xl (Xc t (hr.mono Dc) (Qa (Qo ix_list (pv 0) (pv 2)) Qc))) (Z3 3 scRests.nd) (Qh (Qok hu (pv 1) (pv 3) Qbq rfl)))) Qr)))
  (Qh (Qp (Qi (Qey rfl) rfl M.sorted Jg (Qa (pv 1) Qc))))))),?_⟩
 exists"z"
 have lu:=Paired.length ad
 exists 4,L,4,.inl hL,rfl,4,ite2 (fun y=>?_) (fun y=>?_)
 .have h0:d=[]:=by
   have y':=kZ y
   injection y' with y2
   exact kQf.mp Om
  subst h0
  exists Z1 0,fun g hg=>q g _ (Qb hg _) hg upd_same
 have h0:0<d.length:=by
  cases e:d with
  |cons a b=>exact kXc _
  |nil=>
   rw[e]at lu
   exact Y21 (zX (by rw[show us.length=0 from lu];rfl)) y
 intro W hW
 have s1:=Qb hW (.dK [])
 have b1:upd H W (.dK []) W=some (.dK []):=upd_same
 exists 4,L,4,.inl (s1.seq hL),7,b1,[(Sum.inl ((us.length:Int)-1),.bl true)],rfl,by show 1<=15;decide,?_
 have s2:Same H (upd (upd H W (.dK [])) W (.dK (Qaq [] [(Sum.inl ((us.length:Int)-1),.bl true)]))):=fun b o e=>by rw[Qn (Qk e hW)];exact s1 _ _ e
 have b2:upd (upd H W (.dK [])) W (.dK (Qaq [] [(Sum.inl ((us.length:Int)-1),.bl true)])) W=some (.dK [(Sum.inl ((us.length:Int)-1),.bl true)]):=upd_same
 generalize upd (upd H W (.dK [])) W (.dK (Qaq [] [(Sum.inl ((us.length:Int)-1),.bl true)]))=H2 at s2 b2⊢
 clear b1 s1
 exists 4,L,4,.inl (s2.seq hL),7,4,4,?_
 rw[lu]at b2⊢
 exists _,_,4,⟨Dc,Dc,Wi Om⟩,Vb (lo:=(d.length:Int)-1) (c:=-1) (n:=(Builtin.Range.rangeSize ((d.length:Int)-1) (-1) (-1)).toNat) (fun i Y H3=>∃(v2 X:Option V) (l:List (Key×V)) (r:List Int),Y=[some (.ref L),some (.ref W),v2,X]/\H3 W=some (.dK l)/\l.map (·.1)=r.map Sum.inl/\r.Nodup/\(∀p,p∈r↔mkd d i p=true)/\(64<=d.length->Falls r ((d.length:Int)-1-(i:Int)))/\Same H H3) ⟨none,none,_,[(d.length:Int)-1],rfl,b2,rfl,jYb.mpr ⟨fun z=>(nomatch z),yQa⟩,fun p=>?_,fun _=>Falls.one _ _,s2⟩ ?_ ?_
 .rw[kW]
  exists fun e=>zX e,fun e=>kZ e
 .rintro i Y H3 hi ⟨v2,X,l,r,rfl,N,B,C,m,I,s3⟩
  rw[Zk]at hi
  have ec:(d.length:Int)-1+((i:Nat):Int)*(-1)=((d.length-1-i:Nat):Int):=Om
  rw[ec]
  have ab:(d.length:Int)-1-(i:Int)=((d.length-1-i:Nat):Int):=Om
  obtain⟨u,Z,eu,el,hD⟩:=Qft ad (i:=d.length-1-i) Om
  have aa:∀p,mkd d (i+1) p=(mkd d i p||(mkd d i ((d.length-1-i:Nat):Int)&&decide (p∈Z.names))):=fun p=>by
   show(mkd d i p||(mkd d i ((d.length:Int)-1-(i:Int))&&decide (p∈nmAt d (d.length-1-i))))=_
   rw[ab,Kx el]
  have U:=J _ Z el
  have aj:64<=d.length->Z.names.length<=1:=fun z=>(ai.resolve_left Om) Z (kX el)
  have ae:(d.length:Int)-1-((i+1:Nat):Int)=((d.length-1-i:Nat):Int)-1:=Om
  rw[ab]at I
  rw[ae]
  clear ec ab ae
  have al:l.length<=d.length:=by
   have:=congrArg List.length B
   rw[jQ,jQ]at this
   have:=Qbm C fun p hp=>Qdy J h0 i p ((m p).mp hp)
   lia
  generalize d.length-1-i=num at eu el aa U I⊢
  exists 4,4,W,4,DGet.k (k:=Sum.inl ((num:Nat):Int)) N,4,ite2 (fun y=>?_) (fun y=>?_)
  .have hy:mkd d i ((num:Nat):Int)=true:=(m _).mp ((Qqp B).mp y)
   exists 4,4,L,8,s3.seq hL,Zy eu,u,Z,rfl,hD.same s3,U.1,fun l4 H4 s4 af=>?_
   let ah:Nat->St->Hp->Prop:=fun j Y H5=>∃(X:Option V) (l:List (Key×V)) (r:List Int),Y=[some (.ref L),some (.ref W),some (.int ((num:Nat):Int)),X]/\H5 W=some (.dK l)/\l.map (·.1)=r.map Sum.inl/\r.Nodup/\(∀p,p∈r↔mkd d i p=true\/p∈Z.names.take j)/\(64<=d.length->Falls r (if j=0 then(num:Int)else(num:Int)-1))/\H5 l4=some (.lst (Z.names.map V.int))/\Same H H5
   exists l4,rfl,⟨_,Qg af⟩,Yq (K:=K) (a:=l4) (xs:=Z.names.map V.int) ah ⟨X,l,r,rfl,s4 _ _ N,B,C,fun p=>?_,I,af,s3.trans s4⟩ (fun j Y H5 _ h=>?_) ?_ ?_
   .rw[m];exists .inl,fun z=>z.elim id fun z=>nomatch z
   .obtain⟨_,_,_,rfl,_,_,_,_,_,O,_⟩:=h
    exact Qg O
   .rintro j x Y H5 ex ⟨X,l,r,rfl,R,S,T,G,ac,O,s5⟩
    obtain⟨k,ek,rfl⟩:=Xu ex
    have am:l.length<=d.length:=by
     have:=congrArg List.length S
     rw[jQ,jQ]at this
     have:=Qbm (n:=d.length) T fun p hp=>(by
      rcases(G p).mp hp with z | z
      .exact Qdy J h0 i p z
      .have h6:=U.2 p (kJf z)
       have h7:=(jW.mp el).1
       lia)
     lia
    obtain⟨ag,k1,k2,k3,k4⟩:=Quh (k:=k) (v:=.bl true) S
    exists 4,4,W,4,DPut.k (k:=Sum.inl k) R Om,_,_,ag,rfl,upd_same,k1,k3 T,fun p=>?_,fun z=>?_,by rw[Qn (Qdg O R (by intro z;cases z))];exact O,fun b o e=>?_
    .rw[k2,G,Zw ek,xW,kW,or_assoc]
    .have j0:j=0:=by
      have:=aj z
      have:=(jW.mp ek).1
      lia
     subst j0
     have fz:Falls r ((num:Nat):Int):=ac z
     show Falls ag ((num:Int)-1)
     rcases k4 with rfl | rfl
     .exact fz.less Om
     .exact fz.put ((G _).mpr (.inl hy)) (U.2 k (kX ek)).2
    .rw[Qn (Qk e hW)];exact s5 _ _ e
   .rintro Y H5 ⟨X,l,r,rfl,R,S,T,G,ac,O,s5⟩
    rw[jQ,wV]at G
    exists _,_,l,r,rfl,R,S,T,fun p=>?_,fun z=>(ac z).less ?_,s5
    .rw[G,aa,hy,jZe,Bool.true_and,decide_eq_true_iff]
    .split<;>lia
  .have hy:mkd d i ((num:Nat):Int)=false:=by
    cases e:mkd d i ((num:Nat):Int)with
    |false=>rfl
    |true=>exact Y21 ((Qqp B).mpr ((m _).mpr e)) y
   exists _,_,l,r,rfl,N,B,C,fun p=>?_,fun z=>(I z).less Om,s3
   rw[m,aa,hy,Bool.false_and,Bool.or_false]
 .rintro Y H3 ⟨v2,X,l,r,rfl,N,B,C,m,I,s3⟩
  rw[Zk]at m
  have al:l.length<=d.length:=by
   have:=congrArg List.length B
   rw[jQ,jQ]at this
   have:=Qbm C fun p hp=>Qdy J h0 _ p ((m p).mp hp)
   lia
  exists 4,W,l,r,rfl,N,B,Om,?_,fun D qs hD hq ho=>?_
  .by_cases c:64<=d.length
   .exact .inr (I c).1
   .refine .inl ?_
    have:=Qbm C fun p hp=>Qdy J h0 _ p ((m p).mp hp)
    lia
  have eq:=Qxs J h0 C m hq ho
  have D0:H D=none:=by
   cases e5:H D with
   |none=>rfl
   |some o=>rw[s3 _ _ e5]at hD;cases hD
  exact q D _ (s3.trans (Qb hD _)) D0 (by rw[upd_same,eq])
abbrev sRen:Stmt:=top 14
theorem scRen:FnScope ["line","places"] ["line","places"] (Qf sRen):=Sc
theorem okRen(F:Fn K mg "renumbered" sRen)(M:Mg mg):qC 1 "renumbered" ["line","places"] (Qxt K):=by
 refine Xd F scRen (a:=fun f ag A ab s H vs Q E hr h=>?_)
 obtain⟨u,pl,ln,fn,n,rfl,d,aa,hn,y,q⟩:=h
 have a:=Z6 1 hr.un
 have z:=Z6 1 hr.un
 refine⟨_,(Qe (Xe (Qq Xz (Qo Qm (pv 0) Qd) Xi (Qt _)) (Qh (Qp (Xh (Qa Xi (Qa (Zv ["place","many","places"] [none,none,some 1] rfl (Xl (Qo Qm (pv 0) Qd)) (fun _ _ _=>(Yg (K:=K) (i:=0) (j:=1) rfl rfl (show(["place","many","places"]:List Str).Nodup by decide +kernel) rfl rfl rfl rfl)) (fun _ _ _=>Yf) (fun _ _ _=>(Xh (Qa (Qo (Qqn (K:=K) rfl z) (pv 2) (pv 0)) (Qa (pv 1) Qc))))) Qc))))) Qr)
  (Qe (Xe (Qq Xz (Qo Qm (pv 0) Qd) Xi (Qt _)) (Qh (Qp (Xh (Qa Xi (Qa (Qo (Qqn (K:=K) rfl z) (pv 1) (Qo Qm (pv 0) Qd)) (Qa (Qo Qm (pv 0) Qd) Qc)))))) Qr)
  (Qe (Xe (Qq Xz (Qo Qm (pv 0) Qd) Xi (Qt _)) (Qh (Qp (Xh (Qa Xi (Qa (Qo (Qqn (K:=K) rfl z) (pv 1) (Qo Qm (pv 0) Qd)) (Qa (Qz Ym rfl M.list_ Yj (Qa (Qo Qm (pv 0) Qd) Qc)) Qc)))))) Qr)
  (Qe (Xe (Qq Xz (Qo Qm (pv 0) Qd) Xi (Qt _)) (Qh (Qp (Xh (Qa Xi (Qa (Qo (Qqn (K:=K) rfl z) (pv 1) (Qo Qm (pv 0) Qd)) (Qa (Qo (Qqn (K:=K) rfl z) (pv 1) (Qo Qm (pv 0) Qd)) (Qa (Qo Qm (pv 0) Qd) Qc))))))) Qr)
  (Qh (Qp (Qju (Qq Xz (Qo Qm (pv 0) Qd) Xi (Qt _)) (Xh (Qa Xi (Qa (Qz Ym rfl M.list_ Yj (Qa (Qo Qm (pv 0) Qd) Qc)) Qc))) (pv 0)))))))),?_⟩
 refine Wj ?_;intros
 exists"z"
 cases ln with
 |giv k=>
  have a:SqT K H u _:=d
  exists 4,u,8,a,at0,rfl,4,ite2 (fun e=>Y21 e Dk) (fun _=>?_)
  exists 4,u,8,a,at0,rfl,4,ite2 (fun e=>Y21 e Dk) (fun _=>?_)
  exists 4,u,8,a,at0,rfl,4,ite2 (fun e=>Y21 e Dk) (fun _=>?_)
  exists 4,u,8,a,at0,rfl,4,ite2 (fun e=>Y21 e Dk) (fun _=>?_)
  exists 4,u,8,a,at0,rfl,4,ite2 (fun e=>Y21 e Dk) (fun _=>?_)
  exists 4,q u H (Same.refl H) d
 |low k=>
  have a:SqT K H u _:=d
  exists 4,u,8,a,at0,rfl,4,ite2 (fun e=>Y21 e Dk) (fun _=>?_)
  exists 4,u,8,a,at0,rfl,4,ite2 (fun e=>Y21 e Dk) (fun _=>?_)
  exists 4,u,8,a,at0,rfl,4,ite2 (fun e=>Y21 e Dk) (fun _=>?_)
  exists 4,u,8,a,at0,rfl,4,ite2 (fun e=>Y21 e Dk) (fun _=>?_)
  exists 4,u,8,a,at0,rfl,4,ite2 (fun e=>Y21 e Dk) (fun _=>?_)
  exists 4,q u H (Same.refl H) d
 |high k=>
  have a:SqT K H u _:=d
  exists 4,u,8,a,at0,rfl,4,ite2 (fun e=>Y21 e Dk) (fun _=>?_)
  exists 4,u,8,a,at0,rfl,4,ite2 (fun e=>Y21 e Dk) (fun _=>?_)
  exists 4,u,8,a,at0,rfl,4,ite2 (fun e=>Y21 e Dk) (fun _=>?_)
  exists 4,u,8,a,at0,rfl,4,ite2 (fun e=>Y21 e Dk) (fun _=>?_)
  exists 4,u,8,a,at0,rfl,4,ite2 (fun e=>Y21 e Dk) (fun _=>?_)
  exists 4,q u H (Same.refl H) d
 |bet=>
  have a:SqT K H u _:=d
  exists 4,u,8,a,at10,rfl,4,ite2 (fun e=>Y21 e Dk) (fun _=>?_)
  exists 4,u,8,a,at10,rfl,4,ite2 (fun e=>Y21 e Dk) (fun _=>?_)
  exists 4,u,8,a,at10,rfl,4,ite2 (fun e=>Y21 e Dk) (fun _=>?_)
  exists 4,u,8,a,at10,rfl,4,ite2 (fun e=>Y21 e Dk) (fun _=>?_)
  exists 4,u,8,a,at10,rfl,4,ite2 (fun e=>Y21 e Dk) (fun _=>?_)
  exists 4,q u H (Same.refl H) d
 |lik t=>
  obtain⟨l,a,J⟩:=id d
  exists 4,u,8,a,at0,rfl,4,ite2 (fun e=>Y21 e Dk) (fun _=>?_)
  exists 4,u,8,a,at0,rfl,4,ite2 (fun e=>Y21 e Dk) (fun _=>?_)
  exists 4,u,8,a,at0,rfl,4,ite2 (fun e=>Y21 e Dk) (fun _=>?_)
  exists 4,u,8,a,at0,rfl,4,ite2 (fun e=>Y21 e Dk) (fun _=>?_)
  exists 4,u,8,a,at0,rfl,4,ite2 (fun _=>?_) (fun e=>Y21 Dk e)
  exists 4,u,8,a,at1,l,4,.inl J,fun r m=>?_
  have S:=Qb m (.lst ((tI t).map V.int))
  have X:upd H r (.lst ((tI t).map V.int)) r=some (.lst ((tI t).map V.int)):=upd_same
  generalize upd H r (.lst ((tI t).map V.int))=H1 at S X⊢
  exists Z1 2,fun C g=>?_
  have B:=Qb g (.tup [.str "like",.ref r])
  exact q C _ (S.trans B) ⟨r,m,Ql upd_same,B _ _ X⟩
 |shr o b=>
  have a:SqT K H u _:=d
  exists 4,u,8,a,at30,rfl,4,ite2 (fun e=>Y21 e Dk) (fun _=>?_)
  exists 4,u,8,a,at30,rfl,4,ite2 (fun _=>?_) (fun e=>Y21 Dk e)
  exists 4,4,u,8,a,at31,Qhw y (kY ..) ⟨_,rfl,u,_,_,_,rfl,rfl,a,at32,Z1 3,fun C g=>?_⟩
  exact q C _ (Qb g _) (Ql upd_same)
 |sht o hs=>
  obtain⟨l,a,R,J,G⟩:=id d
  exists 4,u,8,a,at30,rfl,4,ite2 (fun e=>Y21 e Dk) (fun _=>?_)
  exists 4,u,8,a,at30,rfl,4,ite2 (fun e=>Y21 e Dk) (fun _=>?_)
  exists 4,u,8,a,at30,rfl,4,ite2 (fun _=>?_) (fun e=>Y21 Dk e)
  exists 4,4,u,8,a,at31,Qhw y (kY ..) ⟨_,rfl,u,_,_,_,rfl,rfl,a,at32,l,_,rfl,.inl J,fun r m=>?_⟩
  have S:=Qb m (.lst R)
  have X:upd H r (.lst R) r=some (.lst R):=upd_same
  generalize upd H r (.lst R)=H1 at S X⊢
  exists Z1 3,fun C g=>?_
  have B:=Qb g (.tup [.str "shut",.int (fn o),.ref r])
  exact q C _ (S.trans B) ⟨r,R,m,Ql upd_same,B _ _ X,PairsAre.same (S.trans B) G⟩
 |eit o p c=>
  have a:SqT K H u _:=d
  exists 4,u,8,a,at40,rfl,4,ite2 (fun e=>Y21 e Dk) (fun _=>?_)
  exists 4,u,8,a,at40,rfl,4,ite2 (fun e=>Y21 e Dk) (fun _=>?_)
  exists 4,u,8,a,at40,rfl,4,ite2 (fun e=>Y21 e Dk) (fun _=>?_)
  exists 4,u,8,a,at40,rfl,4,ite2 (fun _=>?_) (fun e=>Y21 Dk e)
  exists 4,4,u,8,a,at41,Qhw y (kY ..) ⟨_,rfl,_,rfl,u,_,_,_,rfl,rfl,a,at42,Qhw y (zY _ (kY ..)) ⟨_,rfl,u,_,_,_,rfl,rfl,a,at43,Z1 4,fun C g=>?_⟩⟩
  exact q C _ (Qb g _) (Ql upd_same)
 |sm ps=>
  obtain⟨l,a,R,N,G⟩:=id d
  exists 4,u,8,a,at0,rfl,4,ite2 (fun _=>?_) (fun e=>Y21 Dk e)
  have lv:=G.length
  rw[jQ]at lv
  have ai:ps.length<=10:=aa.1
  exists 4,u,8,a,at1,l,rfl,⟨_,N⟩,fun D hD=>?_
  let Y:Nat->St->List V->Hp->Prop:=fun i τ L U=>∃v v2:Option V,τ=[v,v2,some (.ref pl)]/\U D=some (.lst L)/\PairsAre K U L (((ps.take i).map fun p=>(fn p.1,p.2)).map fun p=>(p.1,V.int p.2))/\L.length=i/\Same H U
  refine Z5 R (show _=ps.length from Om) Y ?_ (fun i τ L U hi h=>?_) ?_ ?_
  .exact⟨none,none,rfl,upd_same,.nil,rfl,Qb hD _⟩
  .obtain⟨v,v2,rfl,W,Z,J,I⟩:=h
   exists ⟨W,Om⟩,I.seq N
  .rintro i τ L U x H3 hi ⟨v,v2,rfl,W,Z,J,I⟩ ⟨rfl,e1⟩
   obtain⟨T,c,w,rfl,ec,hT⟩:=Yo G (e1 _ (I.seq N)) I
   have hm:c∈(DL.sm ps).names:=zW.mpr ⟨(c,w),kX ec,rfl⟩
   exists T,4,hT,rfl,_,4,7,4,4,Qhw (y.same I) hm ⟨_,rfl,Z1 2,fun t2 ac=>?_⟩
   have a3:=Qb ac (.tup [.int (fn c),.int w])
   have O:=a3 _ _ W
   exists O,_,4,upd_same,?_,by rw[yQ,J];rfl,fun b o e=>?_
   .rw[Zw ec,kK,kK]
    exact Paired.snoc (PairsAre.updL O (PairsAre.same a3 Z)) ⟨t2,rfl,Yk O (Ql upd_same)⟩
   .rw[Qn (Qk e hD)];exact a3 _ _ (I _ _ e)
  rintro τ L U ⟨v,v2,rfl,W,Z,J,I⟩
  rw[yW (jZ _)]at Z
  exists Z1 2,fun C g=>?_
  have B:=Qb g (.tup [.str "sum",.ref D])
  exact q C _ (I.trans B) ⟨D,L,hD,Ql upd_same,B _ _ W,PairsAre.same B Z⟩
theorem mkd_up{p:Int}(h:mkd lns i p=true):mkd lns (i+1) p=true:=by
 show(mkd lns i p||_)=true
 rw[h];rfl
theorem Qqs{p:Int}(a:i<=j)(h:mkd lns i p=true):mkd lns j p=true:=by
 induction a with
 |refl=>exact h
 |step _ ih=>exact mkd_up ih
theorem Qld{p:Int}(h:mkd lns (i+1) p=true):mkd lns i p=true\/(mkd lns i ((lns.length:Int)-1-(i:Int))=true/\p∈nmAt lns (lns.length-1-i)):=by
 have a:(mkd lns i p||(mkd lns i ((lns.length:Nat)-1-(i:Int))&&decide (p∈nmAt lns (lns.length-1-i))))=true:=h
 rcases jZe _ _▸a with h1 | h1
 .exact .inl h1
 .exact .inr ⟨(xV _ _▸h1).1,kZ (xV _ _▸h1).2⟩
theorem Qui(a:Kd lns){k:Nat}{p:Int}(h:p∈nmAt lns k):0<=p/\p<(k:Int):=by
 unfold nmAt at h
 cases e:lns[k]? with
 |none=>rw[e]at h;exact nomatch h
 |some ln=>rw[e]at h;exact(a k ln e).2 p h
theorem Quj(c:Kd lns){k:Nat}(e:k<lns.length):∀j,lns.length-1-k<=j->j<=lns.length->mkd lns j (k:Int)=true->mkd lns (lns.length-1-k) (k:Int)=true:=by
 intro j d
 induction d with
 |refl=>exact fun _ h=>h
 |@step m hm ih=>
  intro f h
  rcases Qld h with a | ⟨_,a⟩
  .exact ih Om a
  .have b:lns.length-1-k<=m:=hm
   have:=Qui c a
   lia
def Mk(lns:List DL)(k:Nat):Prop:=mkd lns lns.length (k:Int)=true
theorem Qqt(a:0<lns.length):Mk lns (lns.length-1):=Qqs (jQf _) (zX Om)
theorem Qda(c:Kd lns){k:Nat}(a:k<lns.length)(h:Mk lns k)(d:(j:Int)∈nmAt lns k):Mk lns j:=by
 have b:=Quj c a lns.length Om (jZ _) h
 refine Qqs (show lns.length-1-k+1<=lns.length by lia) ?_
 show(mkd lns (lns.length-1-k) (j:Int)||(mkd lns (lns.length-1-k) ((lns.length:Nat)-1-((lns.length-1-k:Nat):Int))&&decide ((j:Int)∈nmAt lns (lns.length-1-(lns.length-1-k)))))=true
 rw[show(lns.length:Int)-1-((lns.length-1-k:Nat):Int)=(k:Int)by lia,show lns.length-1-(lns.length-1-k)=k by lia,b,zX d]
 simp
theorem Qfu(d:Kd lns)(g:0<lns.length){k:Nat}(f:k≠lns.length-1)(a:k<lns.length):∀i,i<=lns.length->mkd lns i (k:Int)=true->∃k':Nat,k<k'/\k'<lns.length/\Mk lns k'/\(k:Int)∈nmAt lns k'
 |0,_,h=>by
  have:(k:Int)=(lns.length:Int)-1:=kZ h
  lia
 |i+1,hi,h=>by
  rcases Qld h with b | ⟨b,c⟩
  .exact Qfu d g f a i Om b
  .have j:=Qui d c
   exists lns.length-1-i,Om,Om,?_,c
   have e:=Qqs (show i<=lns.length by lia) b
   rw[show(lns.length:Int)-1-(i:Int)=((lns.length-1-i:Nat):Int)by lia]at e
   exact e
theorem Qfv{k:Nat}(a:k<lns.length):(k:Int)∈dueL lns↔Mk lns k:=by
 unfold dueL
 rw[zW]
 constructor
 .rintro⟨j,b,e⟩
  have:j=k:=Om
  subst this
  exact(jKa.mp b).2
 .intro h
  exists k,jKa.mpr ⟨wZ.mpr a,h⟩,rfl
theorem Wv{d:Int}(h:d∈dueL lns):∃k:Nat,d=(k:Int)/\k<lns.length/\Mk lns k:=by
 unfold dueL at h
 obtain⟨k,a,e⟩:=zW.mp h
 exists k,e.symm,wZ.mp (jKa.mp a).1,(jKa.mp a).2
theorem Ky(lns:List DL):(dueL lns).Nodup:=(Ke lns).imp fun h=>Om
theorem Qam(lns:List DL):(dueL lns).length<=lns.length:=by
 unfold dueL
 rw[jQ]
 have:=yYd (fun k:Nat=>mkd lns lns.length (k:Int)) (List.range lns.length)
 rwa [xK]at this
theorem Qhy{x y:Int}(e:(dueL lns)[i]?=some x)(d:(dueL lns)[j]?=some y):i<j↔x<y:=by
 obtain⟨a,g⟩:=jW.mp e
 obtain⟨c,f⟩:=jW.mp d
 have b:=kZb.mp (Ke lns)
 constructor
 .intro h
  have:=b i j a c h
  lia
 .intro h
  rcases Nat.lt_trichotomy i j with z | z | z
  .exact z
  .subst z;lia
  .have:=b j i c a z
   lia
theorem Ww(f:0<lns.length):0<(dueL lns).length/\(dueL lns)[(dueL lns).length-1]?=some ((lns.length-1:Nat):Int):=by
 have b:=(Qfv (lns:=lns) (show lns.length-1<lns.length by lia)).mpr (Qqt f)
 have g:=yXf b
 obtain⟨i,h,e⟩:=jXb.mp b
 have a:(dueL lns)[i]?=some ((lns.length-1:Nat):Int):=by rw[gE h,e]
 exists g,?_
 by_cases c:i=(dueL lns).length-1
 .rw[<-c];exact a
 .have d:=gE (show(dueL lns).length-1<(dueL lns).length by lia)
  obtain⟨k,l,j,_⟩:=Wv (kX d)
  have:=(Qhy a d).mp Om
  lia
def posI(D:List Int)(k:Int):Int:=((D.idxOf k:Nat):Int)
theorem pos_at{D:List Int}(b:D.Nodup){d:Int}(h:D[j]?=some d):posI D d=(j:Int):=by
 obtain⟨c,e⟩:=jW.mp h
 unfold posI
 have a:D.idxOf d<D.length:=kKd (kX h)
 have f:D[D.idxOf d]=d:=List.getElem_idxOf a
 have:=(List.getElem_inj (h₀:=a) (h₁:=c) b).mp (by rw[f,e])
 rw[this]
def Zi(lns:List DL):List DL:=(dueL lns).map fun d=>(lns.getD d.toNat .bet).ren (posI (dueL lns))
def Vl(lns:List DL)(hd:List Rw):List Rw:=(dueL lns).map fun d=>rowK hd d.toNat
theorem Right.names(h:Right rs cs best lns hd):Kd lns:=fun i f e=>by
 obtain⟨o,r,l,d⟩:=h.at e
 have g:=h.length
 have j:=(jW.mp e).1
 exists ?_,fun k c=>?_
 .cases f with
  |sm ps=>exact jZa o.1 Dc
  |_=>trivial
 .obtain⟨a,b⟩:=Qla d k c
  rw[yY]at b
  lia
theorem right_of(c:hd.length=lns.length)(h:∀(i:Nat) (ln:DL),lns[i]?=some ln->DLok cs.length ln/\∃r,hd[i]?=some r/\rowL rs cs best (hd.take i) ln=some r):Right rs cs best lns hd:=by
 have:∀m,m<=lns.length->Right rs cs best (lns.take m) (hd.take m):=by
  intro m
  induction m with
  |zero=>intro _;rw[List.take_zero,List.take_zero];exact .nil
  |succ m ih=>
   intro d
   have e:=gE (show m<lns.length by lia)
   obtain⟨o,r,b,a⟩:=h m _ e
   rw[Wr e,Wr b]
   exact .snoc (ih Om) o a
 have t:=this lns.length (jZ _)
 rw[wV,yW Om]at t
 exact t
theorem Jj{r:Rw}(h:hd[i]?=some r):rowK hd i=r:=by unfold rowK;rw[jJ,h];rfl
theorem Jk(h:i<m):rowK (hd.take m) i=rowK hd i:=by
 unfold rowK
 rw[jJ,jJ,kZe h]
theorem Qan(h:Right rs cs best lns hd)(H:lns.length<=2000):Right rs cs best (Zi lns) (Vl lns hd):=by
 have v:=h.names
 have w:=h.length
 have dl:=Qam lns
 refine right_of (by unfold Zi Vl;rw[jQ,jQ]) fun j z e=>?_
 unfold Zi at e
 rw[jY]at e
 obtain⟨d,i,rfl⟩:=zQ.mp e
 obtain⟨k,rfl,y,B⟩:=Wv (kX i)
 have p:=gE y
 rw[yV,jJ,p]
 show DLok cs.length ((lns[k]).ren _)/\_
 obtain⟨o,r,C,E⟩:=h.at p
 have x:∀q∈(lns[k]).names,∃(m:Nat) (a:Nat),q=(a:Int)/\a<k/\(dueL lns)[m]?=some q/\m<j/\posI (dueL lns) q=(m:Int):=fun q g=>by
  have f:q∈nmAt lns k:=by rw[Kx p];exact g
  obtain⟨I,A⟩:=Qui v f
  obtain⟨a,rfl⟩:∃a:Nat,q=(a:Int):=⟨q.toNat,Om⟩
  have G:=(Qfv (lns:=lns) (show a<lns.length by lia)).mpr (Qda v y B f)
  obtain⟨m,l,c⟩:=jXb.mp G
  have b:(dueL lns)[m]?=some (a:Int):=by rw[gE l,c]
  exists m,a,rfl,Om,b,(Qhy b i).mpr A,pos_at (Ky lns) b
 exists Qvw o fun q g=>?_,r,?_,?_
 .obtain⟨m,a,_,_,c,_,s⟩:=x q g
  have:=(jW.mp c).1
  rw[s];exists Om,Om
 .unfold Vl
  rw[jY,i]
  show some (rowK hd (k:Int).toNat)=_
  rw[yV,Jj C]
 .refine Qqm (hd:=hd.take k) (fun q g _=>?_) E
  obtain⟨m,a,rfl,n,c,t,s⟩:=x q g
  have D:=(jW.mp c).1
  have u:(Vl lns hd).length=(dueL lns).length:=by unfold Vl;rw[jQ]
  have F:=(jW.mp i).1
  rw[s]
  exists ⟨Om,by rw[yY,u];lia⟩,?_
  rw[yV,yV,Jk t,Jk n]
  refine Jj ?_
  unfold Vl
  rw[jY,c]
  show some (rowK hd (a:Int).toNat)=_
  rw[yV]
theorem Vg(lns:List DL):(Zi lns).length=(dueL lns).length:=by unfold Zi;rw[jQ]
theorem Qhz(lns:List DL)(hd:List Rw):(Vl lns hd).length=(dueL lns).length:=by unfold Vl;rw[jQ]
theorem Quk(h:Right rs cs best lns hd)(r:0<lns.length)(A:lns.length<=2000):(dueL (Zi lns)).length=(Zi lns).length:=by
 have u:=h.names
 have i:=(Qan h A).names
 have F:=Vg lns
 obtain⟨G,B⟩:=Ww r
 have all:∀t j,j+t+1=(Zi lns).length->Mk (Zi lns) j:=by
  intro t
  induction t using Nat.strongRecOn with
  |ind t ih=>
   intro j I
   by_cases c:t=0
   .have:=Qqt (lns:=Zi lns) Om
    rw[show(Zi lns).length-1=j by lia]at this
    exact this
   .have b:=gE (show j<(dueL lns).length by lia)
    obtain⟨k,D,l,x⟩:=Wv (kX b)
    rw[D]at b
    have E:k≠lns.length-1:=fun z=>by
     have:=(Qhy b B).mp Om
     lia
    obtain⟨o,H,q,s,p⟩:=Qfu u r E l lns.length (jZ _) x
    obtain⟨d,n,w⟩:=jXb.mp ((Qfv q).mpr s)
    have a:(dueL lns)[d]?=some (o:Int):=by rw[gE n,w]
    have v:j<d:=(Qhy b a).mpr Om
    have y:=ih ((Zi lns).length-1-d) Om d Om
    refine Qda i Om y ?_
    have g:=gE q
    have C:(Zi lns)[d]?=some ((lns[o]).ren (posI (dueL lns))):=by
     unfold Zi
     rw[jY,a]
     show some ((lns.getD (o:Int).toNat .bet).ren _)=_
     rw[yV,jJ,g];rfl
    rw[Kx C,Wt]
    rw[Kx g]at p
    have:=List.mem_map_of_mem (f:=posI (dueL lns)) p
    rw[pos_at (Ky lns) b]at this
    exact this
 have e:dueL (Zi lns)=(List.range (Zi lns).length).map fun k:Nat=>(k:Int):=by
  show((List.range (Zi lns).length).filter fun k:Nat=>mkd (Zi lns) (Zi lns).length (k:Int)).map (fun k:Nat=>(k:Int))=_
  rw[yZe.mpr fun k l=>all ((Zi lns).length-1-k) k (by have:=wZ.mp l;lia)]
 rw[e,jQ,xK]
theorem Qia(a:0<lns.length):rowK (Vl lns hd) ((Vl lns hd).length-1)=rowK hd (lns.length-1):=by
 obtain⟨c,b⟩:=Ww a
 refine Jj ?_
 rw[Qhz]
 unfold Vl
 rw[jY,b]
 show some (rowK hd ((lns.length-1:Nat):Int).toNat)=_
 rw[yV]
def fstI(hd:List Rw)(k:Int):Int:=((hd.idxOf (rowK hd k.toNat):Nat):Int)
theorem Qdz{k:Nat}(a:k<hd.length):∃m:Nat,fstI hd (k:Int)=(m:Int)/\m<=k/\rowK hd m=rowK hd k:=by
 exists hd.idxOf (rowK hd k),by unfold fstI;rw[yV],?_,?_
 .have e:=gE a
  rw[Jj e]
  refine Classical.byContradiction fun z=>?_
  have:=List.not_of_lt_findIdx (p:=fun x=>x == hd[k]) (xs:=hd) (i:=k) (show k<hd.idxOf hd[k]by lia)
  simp at this
 .have c:rowK hd k∈hd:=by
   have e:=gE a
   rw[Jj e];exact jXd a
  have b:=kKd c
  have d:hd[hd.idxOf (rowK hd k)]=rowK hd k:=List.getElem_idxOf b
  exact Jj (by rw[gE b,d])
theorem fst_eq{k:Nat}(h:rowK hd j=rowK hd k):fstI hd (j:Int)=fstI hd (k:Int):=by unfold fstI;rw[yV,yV,h]
def Kl(lns:List DL)(hd:List Rw):List DL:=lns.map (DL.ren (fstI hd))
theorem merge_right(h:Right rs cs best lns hd)(z:lns.length<=2000):Right rs cs best (Kl lns hd) hd:=by
 have g:=h.length
 have w:=h.names
 refine right_of (by unfold Kl;rw[jQ];exact g) fun i u e=>?_
 unfold Kl at e
 rw[jY]at e
 obtain⟨p,n,rfl⟩:=zQ.mp e
 obtain⟨o,r,y,v⟩:=h.at n
 have C:=(jW.mp n).1
 have j:∀q∈p.names,∃d m:Nat,q=(d:Int)/\d<i/\fstI hd q=(m:Int)/\m<=d/\rowK hd m=rowK hd d:=fun q j=>by
  obtain⟨B,A⟩:=(w i p n).2 q j
  obtain⟨d,rfl⟩:∃d:Nat,q=(d:Int):=⟨q.toNat,Om⟩
  obtain⟨m,a,b,c⟩:=Qdz (hd:=hd) (k:=d) Om
  exists d,m,rfl,Om,a,b,c
 exists Qvw o fun q f=>?_,r,y,Qqm (hd:=hd.take i) (fun q f _=>?_) v
 .obtain⟨d,m,_,s,l,t,_⟩:=j q f
  rw[l];exists Om,Om
 .obtain⟨d,m,rfl,s,l,t,x⟩:=j q f
  rw[l]
  exists ⟨Om,by rw[yY];lia⟩,?_
  rw[yV,yV,Jk s,Jk Om,x]
def Jd(lns:List DL)(hd:List Rw):Nat:=(fstI hd ((lns.length-1:Nat):Int)).toNat
def mpre(lns:List DL)(hd:List Rw):List DL:=(Kl lns hd).take (Jd lns hd+1)
def Qea(lns:List DL)(hd:List Rw):List DL:=Zi (mpre lns hd)
def mergeR(lns:List DL)(hd:List Rw):List Rw:=Vl (mpre lns hd) (hd.take (Jd lns hd+1))
theorem Qeb(h:Right rs cs best lns hd)(a:lns.length<=2000):Right rs cs best (mpre lns hd) (hd.take (Jd lns hd+1)):=(merge_right h a).take _
theorem Qle(b:hd.length=lns.length)(d:0<lns.length):Jd lns hd<lns.length/\rowK hd (Jd lns hd)=rowK hd (lns.length-1)/\(mpre lns hd).length=Jd lns hd+1:=by
 obtain⟨m,e,f,c⟩:=Qdz (hd:=hd) (k:=lns.length-1) Om
 have a:Jd lns hd=m:=by unfold Jd;rw[e,yV]
 rw[a]
 exists Om,c,?_
 unfold mpre Kl
 rw[yY,jQ,a]
 lia
structure Short(rs:List Rw)(cs:List Int)(best:Option Int)(last:Rw)(F:List DL)(RF:List Rw):Prop where
 right:Right rs cs best F RF
 nd:RF.Nodup
 pos:0<F.length
 last:rowK RF (RF.length-1)=last
 all:(dueL F).length=F.length
theorem Qdb(h:Right rs cs best lns hd)(K:0<lns.length)(C:lns.length<=2000):Short rs cs best (rowK hd (lns.length-1)) (Qea lns hd) (mergeR lns hd)/\(Qea lns hd).length<=lns.length:=by
 have i:=h.length
 obtain⟨P,v,A⟩:=Qle i K
 have n:=Qeb h C
 have t:(mpre lns hd).length<=2000:=Om
 have M:=Qan n t
 have o:=n.names
 have j:(Qea lns hd).length=(dueL (mpre lns hd)).length:=Vg _
 have dl:=Qam (mpre lns hd)
 have f:∀d∈dueL (mpre lns hd),∃k:Nat,d=(k:Int)/\k<Jd lns hd+1/\fstI hd (k:Int)=(k:Int):=fun d s=>by
  obtain⟨k,rfl,F,B⟩:=Wv s
  exists k,rfl,Om,?_
  by_cases c:k=(mpre lns hd).length-1
  .have J:k=Jd lns hd:=Om
   rw[J,fst_eq v]
   unfold Jd
   obtain⟨m,e,_,_⟩:=Qdz (hd:=hd) (k:=lns.length-1) Om
   rw[e,yV]
  .obtain⟨l,Q,R,N,u⟩:=Qfu o Om c F _ (jZ _) B
   have g:l<lns.length:=Om
   have I:(mpre lns hd)[l]?=some ((lns[l]).ren (fstI hd)):=by
    unfold mpre Kl
    rw[kZe Om,jY,gE g];rfl
   rw[Kx I,Wt]at u
   obtain⟨y,r,O⟩:=zW.mp u
   obtain⟨S,T⟩:=(h.names l _ (gE g)).2 y r
   obtain⟨p,rfl⟩:∃p:Nat,y=(p:Int):=⟨y.toNat,Om⟩
   obtain⟨m,a,b,L⟩:=Qdz (hd:=hd) (k:=p) Om
   have:m=k:=Om
   subst this
   rw[fst_eq L];exact a
 exists ⟨M,?_,?_,?_,Quk n Om t⟩,Om
 .show((dueL (mpre lns hd)).map fun d=>rowK (hd.take (Jd lns hd+1)) d.toNat).Nodup
  have z:=Ky (mpre lns hd)
  rw[List.Nodup,kYa]
  refine List.Pairwise.imp_of_mem ?_ z
  intro a b H w q e
  obtain⟨x,rfl,D,G⟩:=f a H
  obtain⟨y,rfl,r,E⟩:=f b w
  rw[yV,yV,Jk D,Jk r]at e
  exact q (by rw[<-G,<-E,fst_eq e])
 .rw[j];exact(Ww Om).1
 .have:=Qia (lns:=mpre lns hd) (hd:=hd.take (Jd lns hd+1)) Om
  refine Eq.trans this ?_
  rw[A,Jk Om,show Jd lns hd+1-1=Jd lns hd by lia,v]
def NewL(K:Fg)(H H':Hp)(g:Addr)(ws:List V)(X:List DL):Prop:=H g=none/\H' g=some (.lst ws)/\∃H1:Hp,H1 g≠none/\(∀l,H1 l=none->H l=none)/\LinesN K H1 H' ws X
inductive Qqu(K:Fg)(vs:List V)(H:Hp)(Q:VK)(E:XK):Prop|mk(L:Addr)(us:List V)(lns:List DL)(rs hd:List Rw)(cs:List Int)(best:Option Int)(_:vs=[.ref L,.int 0])(_:SqL K H L us)(_:LinesAt K H us lns)(_:Right rs cs best lns hd)(_:cs.length<=20)(_:lns.length<=2000)(_:One lns)(_:∀(g:Addr) (ws:List V) (H':Hp),Same H H'->NewL K H H' g ws (Zi lns)->Q (.ref g) H'):Qqu K vs H Q E
theorem LinesN.lines{us:List V}(h:LinesN K H0 H us lns):LinesAt K H us lns:=Paired.mapP h fun _ _ ⟨u,e,w⟩=>⟨u,e,w.dlat⟩
theorem Kf(s:Same H H')(e:H' l=none):H l=none:=by
 cases a:H l with
 |none=>rfl
 |some o=>rw[s _ _ a]at e;cases e
theorem NewL.old{X:List DL}(h:NewL K H H' g ws X)(s:Same H0 H):NewL K H0 H' g ws X:=by obtain⟨a,b,f,c,d,e⟩:=h;exists Kf s a,b,f,c,fun l z=>Kf s (d l z),e
theorem NewL.same{H'':Hp}{X:List DL}(h:NewL K H H' g ws X)(s:Same H' H''):NewL K H H'' g ws X:=by obtain⟨a,b,f,c,d,e⟩:=h;exists a,s _ _ b,f,c,d,Paired.mapP e fun _ _ ⟨u,e,w⟩=>⟨u,e,w.same s⟩
theorem NewL.lines{X:List DL}(h:NewL K H H' g ws X):LinesAt K H' ws X:=by obtain⟨_,_,_,_,_,e⟩:=h;exact e.lines
theorem Qqv{D:List Int}{d:Int}(h:D[i]?=some d):D.getD i 0=d:=by rw[jJ,h];rfl
theorem Zu(b:H g=some (.dK kvs))(z:SqT K H a xs):SqT K (upd H g o') a xs:=by
 rcases z with(z | ⟨c,z⟩) | z
 .exact .inl (.inl (by rw[Qn (Qdg z b (by intro w;cases w))];exact z))
 .exact .inl (.inr ⟨c,by rw[Qn (Qdg z b (by intro w;cases w))];exact z⟩)
 .exact .inr z
theorem PairsAre.updD(a:H g=some (.dK kvs))(h:PairsAre K H vs ps):PairsAre K (L2.upd H g o') vs ps:=Paired.mapP h fun _ _ ⟨t,e1,z⟩=>⟨t,e1,Zu a z⟩
theorem DLN.updD{u:Addr}(h:DLN K H0 H u ln)(a:H g=some (.dK kvs))(m:H0 g≠none):DLN K H0 (upd H g o') u ln:=by
 have ne:∀l,H0 l=none->l≠g:=fun l e z=>m (by rw[<-z];exact e)
 cases ln with
 |sm ps=>obtain⟨l,j,n,f,d,i⟩:=h;exists l,j,n,Zu a f,by rw[Qn (ne l n)];exact d,PairsAre.updD a i
 |sht o hs=>obtain⟨l,j,n,f,d,i⟩:=h;exists l,j,n,Zu a f,by rw[Qn (ne l n)];exact d,PairsAre.updD a i
 |lik ts=>obtain⟨l,n,f,d⟩:=h;exists l,n,Zu a f,by rw[Qn (ne l n)];exact d
 |giv k=>exact Zu a h
 |low k=>exact Zu a h
 |high k=>exact Zu a h
 |bet=>exact Zu a h
 |shr o b=>exact Zu a h
 |eit o p c=>exact Zu a h
def PlD(kvs:List (Key×V))(D:List Int)(j:Nat):Prop:=∀m d,m<j->D[m]?=some d->valV kvs (Sum.inl d)=some (.int (m:Int))
theorem PlD.put{D:List Int}{d:Int}(h:PlD kvs D j)(f:D.Nodup)(e:D[j]?=some d):PlD (putK kvs (Sum.inl d) (.int (j:Int))) D (j+1):=fun m b o a=>by
 rw[Wa]
 by_cases c:m=j
 .subst c
  rw[e]at a;cases a
  rw[Y22 rfl]
 .have:(Sum.inl b:Key)≠Sum.inl d:=fun z=>by
   have k:b=d:=Sum.inl.inj z
   subst k
   obtain⟨l,n⟩:=jW.mp e
   obtain⟨g,i⟩:=jW.mp a
   exact c ((List.getElem_inj (h₀:=g) (h₁:=l) f).mp (by rw[n,i]))
  rw[Y20 this]
  exact h m b Om a
abbrev Qqw:Stmt:=top 40
theorem scTrim:FnScope ["paper","begin","places","told","number"] ["paper","begin"] (Qf Qqw):=Sc
theorem okTrim(F:Fn K mg "trimmed" Qqw)(M:Mg mg)(G:qC 2 "rests_on" ["paper"] (Qjk K))(t:qC 1 "renumbered" ["line","places"] (Qxt K)):qC 3 "trimmed" ["paper","begin"] (Qqu K):=by
 refine Xd F scTrim (a:=fun f aB A ax s H vs Q E hr h=>?_)
 obtain⟨L,us,lns,rs,hd,cs,am,rfl,hL,ab,hR,hn,ar,au,q⟩:=h
 have hu:=Z6 1 hr.un
 refine⟨_,(Qe (Z4 2 scTrim.nd Qss)
  (Qe (Z4 3 scTrim.nd (Xp Qc))
  (Qe (Xy PassesOwn.never rfl (Xl (Qx op_cat (Qz (Jw rfl) rfl M.list_ Yj (Qa (Qen M.range_ (Qa (pv 1) Qc)) Qc)) (Zv ["number","begin"] [none,some 1] rfl (Xl (Xc G (hr.mono Dc) (Qa (pv 0) Qc))) (fun _ _ _=>(Z3 0 (show(["number","begin"]:List Str).Nodup by decide +kernel))) (fun _ _ _=>(Qnu (Qq Qnk (pv 0) (pv 1) (Qt _)))) (fun _ _ _=>(pv 0))))) (Z3 4 scTrim.nd) (Qe (Qok hu (pv 2) (pv 4) (qL (pv 3)) rfl)
  (Qh (Zj (Wz Y1 Y2 Y3 Ye (pv 3) (Qa (Xc t (hr.mono Dc) (Qa (Qo ix_list (pv 0) (pv 4)) (Qa (pv 2) Qc))) Qc))))))
  (Qh (Qp (pv 3)))))),?_⟩
 refine Zl ?_;intros
 exists"z"
 have lu:=Paired.length ab
 have ac:=hR.names
 have dl:=Qam lns
 intro W hW
 have a1:=Qb hW (.dK [])
 have b1:upd H W (.dK []) W=some (.dK []):=upd_same
 generalize upd H W (.dK [])=H1 at a1 b1⊢
 exists Z1 0,fun T hT=>?_
 have a2:=Qb hT (.lst [])
 have b2:upd H1 T (.lst []) T=some (.lst []):=upd_same
 have wt:T≠W:=fun z=>by rw[z,b1]at hT;cases hT
 have T0:=Kf a1 hT
 have w2:=a2 _ _ b1
 generalize upd H1 T (.lst [])=H2 at a2 b2 w2⊢
 have s2:=a1.trans a2
 exists 4,4,fun r ay=>⟨r,_,rfl,upd_same,Dc,Dc,fun l1 aw=>?_⟩
 have a3:=(Qb ay (.rng 0 0)).trans (Qb aw (.lst ((List.range (Int.toNat 0)).map fun i:Nat=>V.int (i:Int))))
 have b3:upd (upd H2 r (.rng 0 0)) l1 (.lst ((List.range (Int.toNat 0)).map fun i:Nat=>V.int (i:Int))) l1=some (.lst []):=upd_same
 generalize upd (upd H2 r (.rng 0 0)) l1 (.lst ((List.range (Int.toNat 0)).map fun i:Nat=>V.int (i:Int)))=H3 at a3 b3⊢
 have s3:=s2.trans a3
 exists 4,L,us,lns,rfl,s3.seq hL,ab.same s3,ac,ar,au,fun g H4 a4 g0 hg=>⟨g,rfl,⟨_,Qg hg⟩,fun D hD=>?_⟩
 refine Qfo (n:=(dueL lns).length) (fun τ=>∃v:Option V,τ=[v,some (.int 0)]) (fun _=>true) (fun i=>V.int ((dueL lns).getD i 0)) hD Om ⟨none,rfl⟩ (fun i H5 hi s5=>⟨_,_,Qg (s5 _ _ hg),by rw[jY,gE hi];rfl⟩) (fun H5 s5=>⟨_,Qg (s5 _ _ hg),by rw[jQ];exact jZ _⟩) ?_ (fun H5 a5 hE=>?_)
 .rintro i τ H5 x H9 hi ⟨v,rfl⟩ s5 ⟨rfl,e1⟩ P1 P2 h1 h2
  obtain⟨z,Y,rfl⟩:=Xu (e1 _ (Qg (s5 _ _ hg)))
  obtain⟨k,rfl,hk,_⟩:=Wv (kX Y)
  have:=h1 rfl [some (.int (k:Int)),some (.int 0)] _ ⟨_,rfl⟩ (Same.refl _)
  rw[Qqv Y]at this
  exists 4,4,7,4,ite2 (fun _=>⟨_,rfl,this⟩) (fun y=>Y21 (zX (show(0:Int)<=(k:Int)by lia)) y)
 rw[Qkz (dueL lns) fun x=>x,List.map_id']at hE
 have N:=a4.trans a5
 have s5:=s3.trans N
 exists l1,D,[],4,rfl,N _ _ b3,hE,by rw[jQ];show 0+_<=_;lia,fun C hC=>?_
 have a6:=Qb hC (.lst ([]++(dueL lns).map V.int))
 have b6:upd H5 C (.lst ([]++(dueL lns).map V.int)) C=some (.lst ((dueL lns).map V.int)):=upd_same
 generalize upd H5 C (.lst ([]++(dueL lns).map V.int))=H6 at a6 b6⊢
 have ag:=(a3.trans N).trans a6
 have s6:=s2.trans ag
 have w6:=ag _ _ w2
 have t6:=ag _ _ b2
 have tc:C≠T:=fun z=>by rw[z,(a3.trans N) _ _ b2]at hC;cases hC
 have wc:C≠W:=fun z=>by rw[z,(a3.trans N) _ _ w2]at hC;cases hC
 let an:Nat->St->Hp->Prop:=fun j σ B=>∃(v4:Option V) (p:List (Key×V)) (R:List V),σ=[some (.ref L),some (.int 0),some (.ref W),some (.ref T),v4]/\B W=some (.dK p)/\p.length<=j/\PlD p (dueL lns) j/\B T=some (.lst R)/\LinesN K H6 B R ((Zi lns).take j)/\B C=some (.lst ((dueL lns).map V.int))/\(∀l,B l=none->H6 l=none)/\Same H B
 exists C,rfl,⟨_,Qg b6⟩,Yq (K:=K) (a:=C) (xs:=(dueL lns).map V.int) an ⟨none,[],[],rfl,w6,jZ _,fun m d hm=>Y21 hm (kXe _),t6,.nil,b6,fun _ e=>e,s6⟩ (fun j σ B _ h=>?_) ?_ ?_
 .obtain⟨_,_,_,rfl,_,_,_,_,_,U,_,_⟩:=h
  exact Qg U
 .rintro j x σ B e1 ⟨v4,p,R,rfl,Z,ap,al,S,J,U,X,s7⟩
  obtain⟨z,Y,rfl⟩:=Xu e1
  have hj:=(jW.mp Y).1
  obtain⟨k,rfl,hk,mk⟩:=Wv (kX Y)
  have el:=gE hk
  have lw:=Paired.length J
  rw[yY,Vg]at lw
  have ew:R.length=j:=Om
  obtain⟨u,ln,eu,ah,hD⟩:=Qft ab (i:=k) hk
  obtain⟨o,_⟩:=hR.at ah
  exists 4,T,4,.inl (Qg S),4,4,W,4,DPut.k (k:=Sum.inl ((k:Nat):Int)) Z Om,?_
  rw[ew]
  have O:upd B W (.dK (putK p (Sum.inl ((k:Nat):Int)) (.int (j:Int)))) W=some (.dK (putK p (Sum.inl ((k:Nat):Int)) (.int (j:Int)))):=upd_same
  have aa:=al.put (Ky lns) Y
  have aj:(putK p (Sum.inl ((k:Nat):Int)) (V.int (j:Int))).length<=j+1:=by have:=Zs p (Sum.inl ((k:Nat):Int)) (V.int (j:Int));lia
  have ad:upd B W (.dK (putK p (Sum.inl ((k:Nat):Int)) (.int (j:Int)))) T=some (.lst R):=by rw[Qn wt];exact S
  have ai:upd B W (.dK (putK p (Sum.inl ((k:Nat):Int)) (.int (j:Int)))) C=some (.lst ((dueL lns).map V.int)):=by rw[Qn wc];exact U
  have s8:Same H (upd B W (.dK (putK p (Sum.inl ((k:Nat):Int)) (.int (j:Int))))):=fun b o e=>by rw[Qn (Qk e hW)];exact s7 _ _ e
  have ao:LinesN K H6 (upd B W (.dK (putK p (Sum.inl ((k:Nat):Int)) (.int (j:Int))))) R ((Zi lns).take j):=J.imp fun _ _ z=>z.updD Z (by rw[w6];intro z;cases z)
  have I:∀l,upd B W (.dK (putK p (Sum.inl ((k:Nat):Int)) (.int (j:Int)))) l=none->H6 l=none:=fun l e=>by
   by_cases c:l=W
   .rw[c,upd_same]at e;cases e
   .rw[Qn c]at e;exact X l e
  generalize upd B W (.dK (putK p (Sum.inl ((k:Nat):Int)) (.int (j:Int))))=H8 at O ad ai s8 ao I⊢
  generalize putK p (Sum.inl ((k:Nat):Int)) (V.int (j:Int))=kvs8 at O aa aj
  exists 4,.inl ⟨rfl,_,Qg ad⟩,4,4,L,8,s8.seq hL,Zy eu,4,u,W,ln,posI (dueL lns),cs.length,rfl,hD.same s8,o,hn,.inr ⟨kvs8,O,fun k' aq=>?_⟩,fun u' H9 s9 hN=>?_
  .have ak:k'∈nmAt lns k:=by rw[Kx ah];exact aq
   obtain⟨q0,q1⟩:=Qui ac ak
   obtain⟨q',rfl⟩:∃q':Nat,k'=(q':Int):=⟨k'.toNat,Om⟩
   have hm:=(Qfv (lns:=lns) (show q'<lns.length by lia)).mpr (Qda ac hk mk ak)
   obtain⟨m,av,em⟩:=jXb.mp hm
   have af:(dueL lns)[m]?=some (q':Int):=by rw[gE av,em]
   rw[pos_at (Ky lns) af]
   have:=(Qhy af Y).mpr q1
   exact aa m _ Om af
  have ae:=s9 _ _ ad
  have et:(Zi lns)[j]?=some (ln.ren (posI (dueL lns))):=by
   unfold Zi
   rw[jY,Y]
   show some ((lns.getD ((k:Nat):Int).toNat .bet).ren _)=_
   rw[yV,jJ,ah];rfl
  exists T,7,ae,Om,_,kvs8,R++[.ref u'],rfl,by rw[Qn wt.symm];exact s9 _ _ O,aj,aa,upd_same,?_,by rw[Qn tc];exact s9 _ _ ai,fun l e=>?_,fun b o e=>?_
  .rw[Wr et]
   exact Paired.snoc (Paired.mapP ao fun _ _ ⟨u,e,w⟩=>⟨u,e,(w.same s9).updL ae (by rw[t6];intro z;cases z)⟩) ⟨u',rfl,(hN.older I).updL ae (by rw[t6];intro z;cases z)⟩
  .by_cases c:l=T
   .rw[c,upd_same]at e;cases e
   .rw[Qn c]at e;exact I l (Kf s9 e)
  .rw[Qn (Qk e T0)];exact s9 _ _ (s8 _ _ e)
 .rintro σ B ⟨v4,p,R,rfl,Z,ap,al,S,J,U,X,s7⟩
  rw[yW (by rw[Vg,jQ];exact jZ _)]at J
  exists 4,q T R B s7 ⟨T0,S,H6,fun z=>(by rw[t6]at z;cases z),fun l e=>Kf s6 e,J⟩
theorem Qjl(h:ws[ws.length-1]?=some v)(a:0<ws.length):atI ws (-1)=some v:=by
 unfold atI ixN
 rw[Y20 Om,Y22 Om]
 show ws[((-1:Int)+(ws.length:Int)).toNat]?=_
 rw[show((-1:Int)+(ws.length:Int)).toNat=ws.length-1 by lia]
 exact h
theorem Qul(h:One lns):One (Zi lns):=by
 rcases h with h | h
 .exact .inl (by rw[Vg];exact xQ (Qam lns) h)
 .refine .inr fun e c=>?_
  obtain⟨d,b,rfl⟩:=zW.mp c
  obtain⟨k,rfl,a,_⟩:=Wv b
  rw[Wt,jQ,yV,jJ,gE a]
  exact h _ (jXd a)
theorem Qum(h:One lns):One (mpre lns hd):=by
 unfold mpre Kl
 rcases h with h | h
 .exact .inl (by rw[yY,jQ];lia)
 .refine .inr fun d b=>?_
  obtain⟨c,a,rfl⟩:=zW.mp (kJf b)
  rw[Wt,jQ]
  exact h _ a
inductive Qqx(K:Fg)(vs:List V)(H:Hp)(Q:VK)(E:XK):Prop|mk(L R:Addr)(us ws:List V)(lns:List DL)(rs hd:List Rw)(cs:List Int)(best:Option Int)(_:vs=[.ref L,.ref R])(_:SqL K H L us)(_:LinesAt K H us lns)(_:SqL K H R ws)(_:RowsAre K H ws hd)(_:Right rs cs best lns hd)(_:cs.length<=20)(_:lns.length<=2000)(_:One lns)(_:0<lns.length)(_:∀(g:Addr) (zs:List V) (H':Hp),Same H H'->NewL K H H' g zs (Qea lns hd)->Q (.ref g) H'):Qqx K vs H Q E
def Fst(kvs:List (Rw×V))(hd:List Rw)(i:Nat):Prop:=∀r,valV kvs r=if r∈hd.take i then some (.int ((hd.idxOf r:Nat):Int))else none
theorem Qxv{r:Rw}(e:hd[i]?=some r)(h:r∉hd.take i):hd.idxOf r=i:=by
 obtain⟨j,l⟩:=jW.mp e
 have d:=kKd (kX e)
 have f:hd[hd.idxOf r]=r:=List.getElem_idxOf d
 obtain⟨m,a,b,c⟩:=Qdz (hd:=hd) (k:=i) j
 have g:hd.idxOf r=m:=by
  unfold fstI at a
  rw[yV,Jj e]at a
  lia
 by_cases z:m=i
 .omega
 .refine Y21 ?_ h
  refine kX (i:=m) ?_
  rw[kZe Om,<-g,gE d,f]
theorem Fst.old{kvs:List (Rw×V)}{r:Rw}(h:Fst kvs hd i)(e:hd[i]?=some r)(hv:valV kvs r=some v):Fst kvs hd (i+1):=fun a=>by
 have b:r∈hd.take i:=Classical.byContradiction fun z=>by rw[h r,Y20 z]at hv;cases hv
 rw[h a,Wr e]
 by_cases c:a∈hd.take i
 .rw[Y22 c,Y22 (kQa _ c)]
 .rw[Y20 c,Y20 fun z=>(xW.mp z).elim c fun y=>c (by rw[kW.mp y];exact b)]
theorem Fst.new{kvs:List (Rw×V)}{r:Rw}(h:Fst kvs hd i)(e:hd[i]?=some r)(hv:valV kvs r=none):Fst (kvs++[(r,.int (i:Int))]) hd (i+1):=fun b=>by
 have d:r∉hd.take i:=fun z=>by rw[h r,Y22 z]at hv;cases hv
 rw[<-Qsr _ hv,Wa,Wr e]
 by_cases c:b=r
 .rw[Y22 c,Y22 (wY _ (by rw[c];exact kW.mpr rfl)),c,Qxv e d]
 .rw[Y20 c,h b]
  by_cases a:b∈hd.take i
  .rw[Y22 a,Y22 (kQa _ a)]
  .rw[Y20 a,Y20 fun z=>(xW.mp z).elim a fun y=>c (kW.mp y)]
theorem Fst.get{kvs:List (Rw×V)}{r:Rw}(h:Fst kvs hd (i+1))(e:hd[i]?=some r):valV kvs r=some (.int (fstI hd (i:Int))):=by
 have a:=(jW.mp e).1
 rw[h r,Y22 (by rw[Wr e];exact wY _ (kW.mpr rfl))]
 unfold fstI
 rw[yV,Jj e]
def fsts(hd:List Rw)(i:Nat):List Int:=(List.range i).map fun k:Nat=>fstI hd (k:Int)
theorem Qib(hd:List Rw)(i:Nat):fsts hd (i+1)=fsts hd i++[fstI hd (i:Int)]:=by unfold fsts;rw[jYd,kK];rfl
theorem Qbn(hd:List Rw)(i:Nat):(fsts hd i).length=i:=by unfold fsts;rw[jQ,xK]
theorem Qqy{k:Nat}(h:k<n):(fsts hd n)[k]?=some (fstI hd (k:Int)):=by unfold fsts;rw[jY,jYa h];rfl
theorem Qvx(us:List V)(c:Nat)(h:c<=us.length):cutV us none (some (c:Int))=us.take c:=by
 unfold cutV
 show(us.drop 0).take ((if (c:Int)<0 then((c:Int)+(us.length:Int)).toNat else min ((c:Int)).toNat us.length)-0)=_
 rw[Y20 (kYc.mpr (jXa c)),yYf,yV,jYc h,Nat.sub_zero]
theorem Vv{α β:Type}{R:α->β->Prop}{xs:List α}{ys:List β}(h:Paired R xs ys):∀m,Paired R (xs.take m) (ys.take m):=by
 induction h with
 |nil=>intro m;rw[List.take_nil,List.take_nil];exact .nil
 |cons z _ ih=>
  intro m
  cases m with
  |zero=>exact .nil
  |succ m=>exact .cons z (ih m)
abbrev Qic:Stmt:=top 41
theorem scMerge:FnScope ["paper","rows","firsts","places","number","row","lines"] ["paper","rows"] (Qf Qic):=Sc
theorem Qxw(F:Fn K mg "merged" Qic)(M:Mg mg)(y:qC 1 "renumbered" ["line","places"] (Qxt K))(C:qC 3 "trimmed" ["paper","begin"] (Qqu K)):qC 4 "merged" ["paper","rows"] (Qqx K):=by
 refine Xd F scMerge (a:=fun f aJ A aG s H vs Q E hr h=>?_)
 obtain⟨L,R,us,ws,lns,rs,hd,cs,ac,rfl,hL,aj,ai,au,hR,hn,aA,aB,h0,q⟩:=h
 have ap:=Z6 6 hr.un
 refine⟨_,(Qe (Z4 2 scMerge.nd Qxo)
  (Qe (Z4 3 scMerge.nd (Xp Qc))
  (Qe (Xy PassesOwn.never rfl (Qon true rfl M.enumerate_ (Qa (pv 1) Qc)) (Yg (K:=K) (i:=4) (j:=5) rfl rfl scMerge.nd rfl rfl rfl rfl) (Qe (Zj (pe_rsd (xQ (xY (show 2<=6 by decide) _) ap) (pv 2) (pv 5) (pv 4) ⟨rfl,rfl,rfl,rfl⟩))
  (Qh (Zj (Wz Y1 Y2 Y3 Ye (pv 3) (Qa (Qxp (xQ (xY (show 2<=6 by decide) _) ap) (pv 2) (pv 5) (fun _ _=>rfl)) Qc))))))
  (Qe (Qei (i:=6) ["line","places"] [none,some 3] rfl scMerge.nd rfl (inl rfl) (Xl (pv 0)) (fun _ _ _=>(Z3 0 (show(["line","places"]:List Str).Nodup by decide +kernel))) (fun _ _ _=>Yf) (fun _ _ _=>(Xc y (hr.mono Dc) (Qa (pv 0) (Qa (pv 1) Qc)))))
  (Qh (Qp (Xc C (hr.mono Dc) (Qa (Za Wy (pv 6) Kp (Yt (Qx Yw (Qo ix_list (pv 3) (Jr Zg Qd)) Qd))) (Qa Qd Qc))))))))),?_⟩
 exists"z"
 have lu:=Paired.length aj
 have lw:=Paired.length au
 have ar:=hR.length
 have az:=hR.names
 refine fun d ob ao aq=>?_
 have a1:=Qb ao ob
 generalize upd H d ob=H1 at a1 aq⊢
 exists Z1 0,fun N an=>?_
 have a2:=Qb an (.lst [])
 have b2:upd H1 N (.lst []) N=some (.lst []):=upd_same
 have p0:=Kf a1 an
 have aw:=aq.same a2
 generalize upd H1 N (.lst [])=H2 at a2 b2 aw⊢
 have s2:=a1.trans a2
 let am:Nat->St->Hp->Prop:=fun i σ O=>∃(v4 v5:Option V) (p:List (Rw×V)),σ=[some (.ref L),some (.ref R),some (.ref d),some (.ref N),v4,v5,none]/\RD P w K O d p/\Fst p hd i/\p.length<=i/\O N=some (.lst ((fsts hd i).map V.int))/\Same H O
 exists 4,R,rfl,⟨_,s2.seq ai⟩,Qkg (K:=K) (m:=true) (a:=R) (xs:=ws) am ⟨none,none,[],rfl,aw,fun r=>rfl,jZ _,b2,s2⟩ (fun i σ O _ h=>?_) ?_ ?_
 .obtain⟨_,_,_,rfl,_,_,_,_,Y⟩:=h
  exact Y.seq ai
 .rintro i x σ O T e1 ⟨v4,v5,p,rfl,av,f3,l3,W,Y⟩ hT
  have hi:=(jW.mp e1).1
  obtain⟨t,r,rfl,er,aD⟩:=au.get e1
  have a4:=Qb hT (.tup [.int (i:Nat),.ref t])
  have b4:SqT K (upd O T (.tup [.int (i:Nat),.ref t])) T [.int (i:Nat),.ref t]:=Ql upd_same
  generalize upd O T (.tup [.int (i:Nat),.ref t])=G at a4 b4⊢
  have I:=Y.trans a4
  have U:=av.same a4
  have B:=a4 _ _ W
  have af:=aD.same I
  exists T,4,b4,rfl,_,4,7,?_
  exists 4,d,p,rfl,U,4,4,t,p,r,rfl,U,af,Om,fun v ev=>?_,fun en ah ad up=>?_
  .have FF:=f3.old er ev
   have hg:=FF.get er
   exists 4,.inl ⟨rfl,_,Qg B⟩,4,4,d,t,p,r,4,rfl,U,af,hg,N,7,B,by rw[jQ,Qbn];lia,?_
   exists _,_,p,rfl,U.updL B,FF,Om,by rw[upd_same,Qib,kK];rfl,fun b o e=>?_
   rw[Qn (Qk e p0)];exact I _ _ e
  .have FF:=f3.new er en
   obtain⟨aI,_,_,_,ay,_⟩:=U.ex
   have pd:N≠d:=Qdg B ay (by intro z;cases z)
   have aa:upd G d ah N=some (.lst ((fsts hd i).map V.int)):=by rw[Qn pd];exact B
   have X:Same H (upd G d ah):=fun b o e=>by rw[Qn (Qk e ao)];exact I _ _ e
   have al:=up _ _ af
   generalize upd G d ah=H5 at ad aa X al⊢
   have hg:=FF.get er
   exists 4,.inl ⟨rfl,_,Qg aa⟩,4,4,d,t,(p++[(r,V.int (i:Int))]),r,4,rfl,ad,al,hg,N,7,aa,by rw[jQ,Qbn];lia,?_
   exists _,_,(p++[(r,V.int (i:Int))]),rfl,ad.updL aa,FF,(by rw[yQ];exact yXa l3),by rw[upd_same,Qib,kK];rfl,fun b o e=>?_
   rw[Qn (Qk e p0)];exact X _ _ e
 .rintro σ O ⟨v4,v5,p,rfl,av,f3,l3,W,Y⟩
  rw[show ws.length=lns.length by lia]at W
  exists 4,L,rfl,⟨_,Y.seq hL⟩,fun D hD=>?_
  have D0:=Kf Y hD
  have dA:=Qb hD (.lst [])
  let ak:Nat->St->List V->Hp->Prop:=fun i τ J G=>∃v:Option V,τ=[v,some (.ref N)]/\G D=some (.lst J)/\LinesN K (upd O D (.lst [])) G J ((Kl lns hd).take i)/\J.length=i/\(∀l,G l=none->upd O D (.lst []) l=none)/\Same O G
  refine Ys (n:=lns.length) ak ?_ (fun i τ J G hi h=>?_) (fun i τ J G hi h=>?_) (fun τ J G h=>?_) ?_ ?_
  .exact⟨none,rfl,upd_same,.nil,rfl,fun _ e=>e,dA⟩
  .obtain⟨v,rfl,hE,_,hl,_,_⟩:=h
   exists hE,Om
  .obtain⟨v,rfl,hE,_,hl,_,I⟩:=h
   exists us,us[i]'Om,(Y.trans I).seq hL,gE Om
  .obtain⟨v,rfl,hE,_,hl,_,I⟩:=h
   exists us,(Y.trans I).seq hL,Om
  .rintro i τ J G x H9 hi ⟨v,rfl,hE,Z,hl,S,I⟩ ⟨rfl,e1⟩
   have ab:=Y.trans I
   obtain⟨u,ln,eu,el,aF⟩:=Qft aj hi
   have ex:=e1 _ (ab.seq hL)
   rw[eu]at ex
   cases ex
   obtain⟨o,_⟩:=hR.at el
   exists 4,4,u,N,ln,fstI hd,cs.length,rfl,aF.same ab,o,hn,.inl ⟨fsts hd lns.length,Qg (I _ _ W),fun k hk=>?_⟩,fun u' H5 X hN=>?_
   .obtain⟨q0,q1⟩:=(az i ln el).2 k hk
    obtain⟨k',rfl⟩:∃k':Nat,k=(k':Int):=⟨k.toNat,Om⟩
    exists q0,by rw[yV];exact Qqy Om
   have ag:=X _ _ hE
   have em:(Kl lns hd)[i]?=some (ln.ren (fstI hd)):=by unfold Kl;rw[jY,el];rfl
   have ax:upd O D (.lst []) D≠none:=by rw[upd_same];intro z;cases z
   exists ag,4,upd_same,?_,by rw[yQ,hl];rfl,fun l e=>?_,fun b o e=>?_
   .rw[Wr em]
    exact Paired.snoc (Paired.mapP Z fun _ _ ⟨u,e,w⟩=>⟨u,e,(w.same X).updL ag ax⟩) ⟨u',rfl,(hN.older S).updL ag ax⟩
   .by_cases c:l=D
    .rw[c,upd_same]at e;cases e
    .rw[Qn c]at e;exact S l (Kf X e)
   .rw[Qn (Qk e hD)];exact X _ _ (I _ _ e)
  rintro τ J G ⟨v,rfl,hE,Z,hl,S,I⟩
  have aH:(Kl lns hd).length=lns.length:=by unfold Kl;rw[jQ]
  rw[yW Om]at Z
  have ab:=Y.trans I
  have B:=I _ _ W
  obtain⟨m1,m2,m3⟩:=Qle (lns:=lns) ar h0
  have ae:fstI hd ((lns.length-1:Nat):Int)=((Jd lns hd:Nat):Int):=by
   obtain⟨m,e,_,_⟩:=Qdz (hd:=hd) (k:=lns.length-1) Om
   unfold Jd;rw[e,yV]
  have aC:atI ((fsts hd lns.length).map V.int) (-1)=some (.int ((Jd lns hd:Nat):Int)):=Qjl (by rw[jQ,Qbn,jY,Qqy Om,ae];rfl) (by rw[jQ,Qbn];exact h0)
  exists 4,4,4,N,8,Qg B,aC,7,4,D,4,Qg hE,fun l5 aE=>?_
  rw[show((Jd lns hd:Nat):Int)+1=((Jd lns hd+1:Nat):Int)by lia,Qvx _ _ Om]
  have a5:=Qb aE (.lst (J.take (Jd lns hd+1)))
  have b5:upd G l5 (.lst (J.take (Jd lns hd+1))) l5=some (.lst (J.take (Jd lns hd+1))):=upd_same
  generalize upd G l5 (.lst (J.take (Jd lns hd+1)))=H5 at a5 b5⊢
  have X:=ab.trans a5
  exists l5,_,mpre lns hd,rs,_,cs,ac,rfl,Qg b5,LinesAt.same (Vv (LinesN.lines Z) _) a5,Qeb hR aA,hn,Om,Qum aB,fun g zs H6 s6 hN=>?_
  exact q g zs H6 (X.trans s6) (hN.old X)
end Nb
namespace L2
open PySem PySem.Spec PyProof.Rows PySem.W
section
variable{prog:Program}{R:Result->Shared->Prop}{I:Addr}{wr:List Addr}{P:Nat->Value->Prop}{St:Nat->Heap->Prop}{old:Addr->Obj->Prop}{kf:Nat->Int}{s0:Shared}
def KpO(old:Addr->Obj->Prop)(h:Heap):Prop:=∀b o,old b o->h.get? b=some o
def KeyR(prog:Program)(w:World)(A:Around)(old:Addr->Obj->Prop)(P:Nat->Value->Prop)(kf:Nat->Int):Prop:=∀(i:Nat) (v:Value) (s:Shared) (Q:VP) (E:VP),P i v->KpO old s.heap->(∀t tk,Q (.int (kf i) t) { s with toks:=tk })->qe prog w A (call (.builtin "len") [v]) Q E s
theorem Qqz(W:Walks prog w A.in1 I fp wr n P St)(B:KeyR prog w A.in1 old P kf)(S:Addr)(y:S∉fp)(H:∀b o,old b o->b∉wr/\b≠S)
  (O:∀(h:Heap) (tk:Nat) i v,P i v->(∀j,j<n->kf i<=kf j)->KpO old h->R (.ok (.ret v)) { s0 with heap:=h,toks:=tk }) :
  ∀(k j:Nat) (s:Shared) (vb:Value) (tb:Tok) (c i:Nat),n-(j+1)=k->j+1<=n->St (j+1) s.heap->P i vb->(∀j',j'<=j->kf i<=kf j')->KpO old s.heap ->
  s.heap.get? S=some { cls:=.type "list",dict:=none,data:=.seq #[vb,.int (kf i) tb] c,slots:=#[] } ->
  (∃h tk,s={ s0 with heap:=h,toks:=tk }) ->
  codeAny (model prog w) A (.builtin "min.loop" ⟨[.ref I,.builtin "len",.ref S],[]⟩) R s:=by
 have u:S∉wr:=fun h=>y (W.sub _ h)
 have f:(toString "min" ++ toString ".loop":String)="min.loop":=Dc
 intro k
 induction k with
 |zero=>
  rintro j _ vb tb c i T V m p E r C ⟨U,K,rfl⟩
  have J:j+1=n:=Om
  refine Y28 F.entry_min_loop ?_
  rw[Around.under_plainId F.plain_min_loop _]
  show wpAny _ A.in1 (seqItems? (.ref S) >>= _) _ _ _
  refine jX (wpAny_seqItems C rfl ?_)
  show wpAny _ A.in1 (tryCatch (pyNext (.ref I)) _ >>= _) _ _ _
  refine jX (wpAny_tryCatch (W.done _ _ _ (J▸m) fun N tk a=>?_))
  have g:=a S _ u C
  show wpAny _ A.in1 (updateSeq S (fun _=>#[]) >>= _) _ _ _
  refine jX ?_
  refine wpAny_updateSeq g rfl (jX (wpAny_letGo (jK ?_)))
  exact O _ _ i vb p (fun j' D=>E j' Om) fun b o e=>(jZb _ _ (Ne.symm (H b o e).2)).trans (a b o (H b o e).1 (r b o e))
 |succ k ih=>
  rintro j _ vb tb c i T V m p E r C ⟨U,K,rfl⟩
  have q:j+1<n:=Om
  refine Y28 F.entry_min_loop ?_
  rw[Around.under_plainId F.plain_min_loop _]
  show wpAny _ A.in1 (seqItems? (.ref S) >>= _) _ _ _
  refine jX (wpAny_seqItems C rfl ?_)
  show wpAny _ A.in1 (tryCatch (pyNext (.ref I)) _ >>= _) _ _ _
  refine jX (wpAny_tryCatch (W.item (j+1) _ _ _ q m fun v N tk M l a=>?_))
  have g:=a S _ u C
  have d:KpO old N:=fun b o e=>a b o (H b o e).1 (r b o e)
  show wpAny _ A.in1 (tryCatch (holding [v] (call (.builtin "len") [v])) _ >>= _) _ _ _
  refine jX (wpAny_tryCatch (Y30 (B (j+1) v _ _ _ M d fun G Q=>?_)))
  show wpAny _ A.in1 (tryCatch (holding [v,.int (kf (j+1)) G] (richCompare .Lt (.int (kf (j+1)) G) (.int (kf i) tb) >>= _)) _ >>= _) _ _ _
  refine jX (wpAny_tryCatch (Y30 (jX (CmpOf.ints_lt (prog:=prog) (w:=w) (A:=A.in1) (P:=fun i v=>∃t,v=.int (kf i) t) kf (fun i v h=>h) (j+1) i _ _ _ _ _ ⟨G,rfl⟩ ⟨tb,rfl⟩ ?_))))
  refine jX (Y30 (Y31 ?_))
  refine jX (wpAny_letGo (jK ?_))
  by_cases x:kf (j+1)<kf i
  .simp only[x,decide_true,if_true]
   refine jX ?_
   refine wpAny_updateSeq g rfl (jX (wpAny_letGo ?_))
   rw[f]
   refine jK ⟨kZf F.plain_min_loop _,ih (j+1) _ v G _ (j+1) Om q (W.frame _ _ _ l fun b L o e=>?_) M (fun j' D=>?_) (fun b o e=>?_) (jJa _ g rfl) ⟨_,_,rfl⟩⟩
   .exact(jZb _ _ (fun h:S=b=>y (by rw[h];exact L))).trans e
   .by_cases z:j'=j+1
    .rw[z];exact kQc _
    .have:=E j' Om;lia
   .exact(jZb _ _ (Ne.symm (H b o e).2)).trans (d b o e)
  .simp only[x,decide_false,yZ,if_false]
   refine jX (wpAny_letGo ?_)
   rw[f]
   refine jK ⟨kZf F.plain_min_loop _,ih (j+1) _ vb tb c i Om q l p (fun j' D=>?_) d g ⟨_,_,rfl⟩⟩
   by_cases z:j'=j+1
   .rw[z];lia
   .exact E j' Om
theorem Qmv(W:Walks prog w A.in1 I fp wr n P St)(d:KeyR prog w A.in1 old P kf)(S:Addr)(f:S∉fp)(r:∀b o,old b o->b∉wr/\b≠S)(u:0<n)(q:St 0 s0.heap)(s:KpO old s0.heap)
  (y:s0.heap.get? S=some { cls:=.type "list",dict:=none,data:=.seq #[] c,slots:=#[] })
  (B:∀(h:Heap) (tk:Nat) i v,P i v->(∀j,j<n->kf i<=kf j)->KpO old h->R (.ok (.ret v)) { s0 with heap:=h,toks:=tk }) :
  codeAny (model prog w) A (.builtin "min.loop" ⟨[.ref I,.builtin "len",.ref S],[]⟩) R s0:=by
 have p:S∉wr:=fun h=>f (W.sub _ h)
 have g:(toString "min" ++ toString ".loop":String)="min.loop":=Dc
 refine Y28 F.entry_min_loop ?_
 rw[Around.under_plainId F.plain_min_loop _]
 show wpAny _ A.in1 (seqItems? (.ref S) >>= _) _ _ _
 refine jX (wpAny_seqItems y rfl ?_)
 show wpAny _ A.in1 (tryCatch (pyNext (.ref I)) _ >>= _) _ _ _
 refine jX (wpAny_tryCatch (W.item 0 _ _ _ u q fun v D tk x k l=>?_))
 have m:=l S _ p y
 have a:KpO old D:=fun b o e=>l b o (r b o e).1 (s b o e)
 show wpAny _ A.in1 (tryCatch (holding [v] (call (.builtin "len") [v])) _ >>= _) _ _ _
 refine jX (wpAny_tryCatch (Y30 (d 0 v _ _ _ x a fun z C=>?_)))
 show wpAny _ A.in1 (updateSeq S (fun _=>#[v,.int (kf 0) z]) >>= _) _ _ _
 refine jX ?_
 refine wpAny_updateSeq m rfl ?_
 rw[g]
 refine jK ⟨kZf F.plain_min_loop _,Qqz W d S f r B _ 0 _ v z _ 0 rfl u (W.frame _ _ _ k fun b t o e=>?_) x (fun E G=>?_) (fun b o e=>?_) (jJa _ m rfl) ⟨_,_,rfl⟩⟩
 .exact(jZb _ _ (fun h:S=b=>f (by rw[h];exact t))).trans e
 .rw[show E=0 by lia];exact kQc _
 .exact(jZb _ _ (Ne.symm (r b o e).2)).trans (a b o e)
theorem Qun{vs:List Value}{Q:VP}(p:A.handled=none)(g:s0.heap.IsList l vs.toArray)(n:0<vs.length)
  (f:KeyR prog w A.in1 (fun b o=>s0.heap.get? b=some o) (fun i v=>vs.toArray[i]?=some v) kf)
  (h:∀(h':Heap) (tk:Nat) i v,vs[i]?=some v->(∀j,j<vs.length->kf i<=kf j)->(∀b o,s0.heap.get? b=some o->h'.get? b=some o)->Q v { s0 with heap:=h',toks:=tk }) :
  qe prog w A (call (.builtin "min") [.ref l] [(Str.ofString "key",.builtin "len")]) Q E s0:=by
 have a:(toString "min" ++ toString ".loop":String)="min.loop":=Dc
 have c:l<(qa s0):=by obtain⟨_,e,_⟩:=id g;exact yK e
 refine kmk_tree PySem.F.kind_min PySem.F.plain_min PySem.F.entry_min (kmk_min_key _ _) ?_
 show wpAny _ A.in1 (Builtin.Builtins.bindParams "min" ["key","default"] 0 ⟨[],[(Str.ofString "key",.builtin "len")]⟩ >>= _) _ _ s0
 refine jX (wpAny_of_eq (show Builtin.Builtins.bindParams "min" ["key","default"] 0 ⟨[],[(Str.ofString "key",.builtin "len")]⟩=pure [some (.builtin "len"),none]from rfl) ?_)
 refine jX (jK ?_)
 refine jX (wpAny_pyIter_list g ?_)
 refine jX (Y26 ?_)
 rw[a]
 have W:=Walks.list (prog:=prog) (w:=w) (A:=A.in1) p (qa s0) l (zV c) vs.toArray
 have d:vs.toArray.size=vs.length:=kQ ..
 have sz:(s0.heap.push { cls:=.type "list_iterator",data:=.fields #[.ref l,.int 0 0] }).objs.size=(qa s0)+1:=jZc ..
 refine jK ⟨kZf F.plain_min_loop _,Qmv (old:=fun b o=>s0.heap.get? b=some o) W f _ (fun k=>?_) (fun b o e=>⟨fun k=>?_,fun z=>?_⟩) (by rw[d];exact n) (W.frame 0 (s0.heap.push { cls:=.type "list_iterator",data:=.fields #[.ref l,.int 0 0] }) _ ⟨⟨_,yJ _ rfl,rfl,rfl⟩,g.push _⟩ fun b _ o e=>jV _ e) (fun b o e=>jV _ (jV _ e)) (yJ _ rfl) fun h' tk i v r q m=>?_⟩
 .rcases zK.mp k with z | z
  .rw[sz]at z;exact Y21 z (kKc (Nat.lt_succ_self _))
  .have e:=kW.mp z
   exact Y21 c (by rw[<-e,sz];exact Nat.not_lt.mpr (yQb _))
 .rw[kW.mp k]at e
  exact Y21 (yK e) (kQd _)
 .have:=yK e
  rw[z,sz]at this
  exact Y21 this (Nat.not_lt.mpr (yQb _))
 .exact h h' tk i v (by simpa using r) (fun j s=>q j (by rw[d];exact s)) m
end
theorem Qra{a:Expr}{p kp p2:Pos}(Y:X.calm=true)(hg:Gl X "min")(hm:X.mg "min"=none)(A:Gl X "len")(t:X.mg "len"=none)(ha:PA X [a] ta)(G:qb (starEach [a] X.env=[(false,eval a X.env)])) :
  PE X (.Call (.Name "min" p) [a] [⟨some "key",.Name "len" p2,kp⟩] pos) (fun σ H Q=>ta σ H fun vs H1=>∃(l:Addr) (as:List Addr) (cs:List (List V)),vs=[.ref l]/\SqL X.K H1 l (as.map V.ref)/\0<as.length/\as.length=cs.length/\(∀(i:Nat) b,as[i]?=some b->SqL X.K H1 b (cs.getD i []))/\∀(i:Nat) b,as[i]?=some b->(∀j,j<as.length->(cs.getD i []).length<=(cs.getD j []).length)->Q (.ref b) H1):=by
 intro d s σ H Q I h
 refine wpAny_Call_Name_kw (Vm I hg hm (u:=.builtin "min") (by rfl) ?_)
 refine PyProof.Rows.callWith_kw (thn (ha pos d s σ H _ I h) fun us s1 B=>?_) (he:=by rw[G];rfl) (hplain:=by rw[G];rfl)
 obtain⟨vs,H1,k,r1,l,as,cs,M,T,O,aa,D,q⟩:=B
 refine kws_cons (Vm k A t (u:=.builtin "len") (by rfl) (kws_nil ?_))
 subst M
 obtain⟨u',rfl,ru⟩:=r1.one
 cases ru
 obtain⟨g,r,U,hz⟩:=k.list T
 have N:=r.length
 rw[jQ]at N
 have c:∀{i:Nat} {v:Value},g[i]?=some v->∃b,as[i]?=some b/\v=.ref b:=fun{i v} e=>by
  have hi:=(jW.mp e).1
  have L:=gE (show i<as.length by lia)
  obtain⟨w',J,x⟩:=r.get (show(as.map V.ref)[i]?=some (.ref as[i])by rw[jY,L];rfl)
  rw[e]at J
  cases J
  exists _,L,x
 have F:=Qdk
 refine Qun (kf:=fun i=>(((cs.getD i []).length:Nat):Int)) (I.ok.hd Y) U.isList Om (fun i v s' Q' E' Z y S=>?_) fun h' tk i v hv R y=>?_
 .obtain⟨b,C,rfl⟩:=c (show g[i]?=some v by simpa using Z)
  obtain⟨f,W,n,P⟩:=k.list (D i b C)
  have m:=W.length
  have z:s'.heap.IsList b f.toArray:=n.isList.at fun o e=>y b o e
  refine Calls.call_len_list z (by simp only[kQ];lia) ?_
  rw[kQ,<-m]
  exact S _ _
 .obtain⟨b,C,rfl⟩:=c hv
  exists .ref b,H1,k.kept y,rfl,q i b C fun j hj=>by have:=R j Om;lia
end L2
namespace Nb
open PySem L2
inductive Qrb(K:Fg)(vs:List V)(H:Hp)(Q:VK)(E:XK):Prop|mk(t L:Addr)(us:List V)(lns:List DL)(rs hd:List Rw)(cs:List Int)(best:Option Int)(_:vs=[.ref t,Vk best,.ref L])(_:ProbAt K H t rs cs)(_:(∀r∈rs,r.1.length=cs.length))(_:SqL K H L us)(_:LinesAt K H us lns)(_:Right rs cs best lns hd)(_:cs.length<=20)(_:rs.length<=20)(_:lns.length<=2000)(_:One lns)(_:(lns=[]->∀(g:Addr) (H':Hp),Same H H'->H g=none->H' g=some (.lst [])->Q (.ref g) H'))(_:(0<lns.length->∀(g:Addr) (zs:List V) (F:List DL) (RF:List Rw) (H':Hp),Same H H'->NewL K H H' g zs F->Short rs cs best (rowK hd (lns.length-1)) F RF->F.length<=(dueL lns).length->Q (.ref g) H')):Qrb K vs H Q E
theorem Qid{K:Fg}{H:Hp}{ws:List V}{hd:List Rw}(h:RowsAre K H ws hd):∀(D:List Int),(∀d∈D,∃k:Nat,d=(k:Int)/\k<hd.length)->RowsAre K H (D.map fun d=>ws.getD d.toNat .non) (D.map fun d=>rowK hd d.toNat)
 |[],_=>.nil
 |d::D,hD=>by
  obtain⟨k,rfl,c⟩:=hD d (kY ..)
  have f:=Paired.length h
  obtain⟨r,a,t,e,z⟩:=L2.Xx h (gE (show k<ws.length by lia))
  refine .cons ⟨t,?_,?_⟩ (Qid h D fun x b=>hD x (zY _ b))
  .show ws.getD ((k:Int)).toNat .non=_
   rw[yV,jJ,gE (show k<ws.length by lia)];exact e
  .show RowAt K H t (rowK hd ((k:Int)).toNat)
   rw[yV,Jj a];exact z
abbrev Qlf:Stmt:=top 42
theorem scShort:FnScope ["problem","best","paper","rows","needed"] ["problem","best","paper"] (Qf Qlf):=Sc
theorem Qxx(F:Fn K mg "shorter" Qlf)(M:Mg mg)(m:qC 7 "rows_told" ["problem","best","paper"] (Qdx K))(o:qC 2 "rests_on" ["paper"] (Qjk K))(r:qC 3 "trimmed" ["paper","begin"] (Qqu K))(j:qC 4 "merged" ["paper","rows"] (Qqx K)):qC 8 "shorter" ["problem","best","paper"] (Qrb K):=by
 refine Xd F scShort (a:=fun f az A ap s H vs Q E hr h=>?_)
 obtain⟨t,L,S,c,Y,hd,cs,p,rfl,hP,ae,hL,I,R,hn,hm,B,J,q0,q⟩:=h
 refine⟨_,(Qe (Xe (Qq Xz (qL (pv 2)) Qd (Qt _)) (Qh (Qp (Xp Qc))) Qr)
  (Qe (Z4 3 scShort.nd (Xc m (hr.mono Dc) (Qa (pv 0) (Qa (pv 1) (Qa (pv 2) Qc)))))
  (Qe (Z4 4 scShort.nd (Xc j (hr.mono Dc) (Qa (Xc r (hr.mono Dc) (Qa (pv 2) (Qa Qd Qc))) (Qa (Zv ["number","rows"] [none,some 3] rfl (Xl (Xc o (hr.mono Dc) (Qa (pv 2) Qc))) (fun _ _ _=>(Z3 0 (show(["number","rows"]:List Str).Nodup by decide +kernel))) (fun _ _ _=>Yf) (fun _ _ _=>(Qo (Qeo (K:=K) rfl) (pv 1) (pv 0)))) Qc))))
  (Qh (Qp (Qra rfl rfl M.min rfl M.len (Qa (Xp (Qa (pv 4) (Qa (Xc j (hr.mono Dc) (Qa (pv 2) (Qa (pv 3) Qc))) Qc))) Qc))))))),?_⟩
 refine Zl ?_;intros
 exists"z"
 have lu:=Paired.length I
 have au:=R.length
 have ai:=R.names
 exists 4,L,4,.inl hL,rfl,4,ite2 (fun y=>?_) (fun y=>?_)
 .have e0:c=[]:=by
   have y':=kZ y
   injection y' with y2
   exact kQf.mp Om
  exists Z1 0,fun g hg=>q0 e0 g _ (Qb hg _) hg upd_same
 have h0:0<c.length:=by
  cases e:c with
  |cons a b=>exact kXc _
  |nil=>
   rw[e]at lu
   exact Y21 (zX (by rw[show S.length=0 from lu];rfl)) y
 have q:=q h0
 have px:Px K H t L Y cs S (c.map dlD):=⟨hP,hL,by rw[jQ];exact lu,fun i v x e1 e2=>(by
  rw[jY]at e2
  obtain⟨ln,el,rfl⟩:=zQ.mp e2
  obtain⟨aA,aa,u,rfl,z⟩:=L2.Xx I e1
  rw[el]at aa;cases aa
  exact Qxn z),fun x hx=>(by
  obtain⟨ln,hl,rfl⟩:=zW.mp hx
  exact sm_dl hn (R.ok ln hl)),ae,Om,Om,by rw[jQ];exact B,fun x _ w xs _ _=>trivial⟩
 exists 4,4,4,t,L,Y,cs,p,S,4,px,fun W U H1 W0 a1 hW N=>?_
 rw[R.told]at N
 have lw:=Paired.length N
 have tr:=Qan R B
 have tl:=Vg c
 have dl:=Qam c
 exists 4,L,S,c,Y,hd,cs,p,rfl,a1.seq hL,I.same a1,R,hn,B,J,fun g1 ar H2 a2 ac=>?_
 have ah:=ac.2.1
 have s2:=a1.trans a2
 exists 4,L,S,c,rfl,s2.seq hL,I.same s2,ai,B,J,fun g2 H3 a3 ax O=>⟨g2,rfl,⟨_,Qg O⟩,fun D hD=>?_⟩
 have s3:=s2.trans a3
 have ad:=(a2.trans a3) _ _ hW
 refine Qfo (n:=(dueL c).length) (fun τ=>∃v:Option V,τ=[v,some (.ref W)]) (fun _=>true) (fun i=>(fun d:Int=>U.getD d.toNat .non) ((dueL c).getD i 0)) hD Om ⟨none,rfl⟩ (fun i H5 hi G=>⟨_,_,Qg (G _ _ O),by rw[jY,gE hi];rfl⟩) (fun H5 G=>⟨_,Qg (G _ _ O),by rw[jQ];exact jZ _⟩) ?_ (fun H4 a4 hE=>?_)
 .rintro i τ H5 x H9 hi ⟨v,rfl⟩ G ⟨rfl,e1⟩ P1 P2 h1 h2
  obtain⟨z,ez,rfl⟩:=Xu (e1 _ (Qg (G _ _ O)))
  obtain⟨k,rfl,hk,_⟩:=Wv (kX ez)
  have:=h1 rfl [some (.int (k:Int)),some (.ref W)] _ ⟨_,rfl⟩ (Same.refl _)
  rw[Qqv ez]at this
  dsimp only at this
  rw[yV]at this
  have ew:U[k]?=some (U.getD k .non):=by rw[jJ,gE (show k<U.length by lia)];rfl
  exists 4,4,W,8,Qg (G _ _ ad),Zy ew,this
 rw[natsV (l:=dueL c) rfl 0 fun d:Int=>U.getD d.toNat .non]at hE
 have C:=a3.trans a4
 have s4:=s2.trans C
 have af:RowsAre K H4 ((dueL c).map fun d=>U.getD d.toNat .non) (Vl c hd):=Qid (N.imp fun _ _ z=>z.same (a2.trans C)) _ fun d aq=>(by
  obtain⟨k,e,hk,_⟩:=Wv aq
  exists k,e,Om)
 obtain⟨ab,aB⟩:=Qdb tr (by rw[tl];exact(Ww h0).1) Om
 obtain⟨am,aC⟩:=Qdb R h0 B
 have eA:rowK (Vl c hd) ((Zi c).length-1)=rowK hd (c.length-1):=by
  have:=Qia (hd:=hd) h0
  rw[Qhz]at this
  rw[tl];exact this
 rw[eA]at ab
 exists g1,D,ar,_,Zi c,Y,Vl c hd,cs,p,rfl,Qg (C _ _ ah),LinesAt.same ac.lines C,Qg hE,af,tr,hn,Om,Qul J,by rw[tl];exact(Ww h0).1,fun gA zA H5 a5 X=>?_
 have ao:=X.2.1
 have G:=s4.trans a5
 have ak:=(C.trans a5) _ _ (a2 _ _ hW)
 exists 4,4,4,L,W,S,U,c,Y,hd,cs,p,rfl,G.seq hL,I.same G,Qg ak,N.imp fun _ _ z=>z.same (a2.trans (C.trans a5)),R,hn,B,J,h0,fun Z zB H6 a6 T=>?_
 have an:=T.2.1
 have s6:=G.trans a6
 exists Z1 2,fun M0 al=>?_
 have a7:=Qb al (.lst [.ref gA,.ref Z])
 have b7:upd H6 M0 (.lst [.ref gA,.ref Z]) M0=some (.lst [.ref gA,.ref Z]):=upd_same
 generalize upd H6 M0 (.lst [.ref gA,.ref Z])=H7 at a7 b7⊢
 have s7:=s6.trans a7
 have aj:=(a6.trans a7) _ _ ao
 have ag:=a7 _ _ an
 have lA:zA.length=(Qea (Zi c) (Vl c hd)).length:=Paired.length X.lines
 have lB:zB.length=(Qea c hd).length:=Paired.length T.lines
 exists M0,[gA,Z],[zA,zB],rfl,Qg b7,kXc _,rfl,fun i b e=>?_,fun i b e hb=>?_
 .rcases i with _ | _ | i
  .cases e;exact Qg aj
  .cases e;exact Qg ag
  .exact nomatch e
 .rcases i with _ | _ | i
  .cases e
   exact q gA zA _ _ H7 s7 ((X.same (a6.trans a7)).old s4) ab Om
  .cases e
   have ay:zB.length<=zA.length:=hb 0 (kXc _)
   exact q Z zB _ _ H7 s7 ((T.same a7).old G) am Om
  .exact nomatch e
theorem bind0{F:List Value->Prop}(h:F []):∀us:List Value,us.length=0->F us:=fun us a=>by rw[kQf.mp a];exact h
def Qjm(rs:List Rw)(cs:List Int)(best:Option Int)(a:List DL×List Rw)(z:Int):List DL×List Rw :=
 match rowL rs cs best a.2 (Qcx cs.length rs.length (a.2.length:Int) z)with
 |none=>a
 |some r=>(a.1++[Qcx cs.length rs.length (a.2.length:Int) z],a.2++[r])
def papF(rs:List Rw)(cs:List Int)(best:Option Int)(zs:List Int):List DL×List Rw:=zs.foldl (Qjm rs cs best) ([],[])
theorem Qrc(rs:List Rw)(a:List Int)(best:Option Int){zs:List Int}{z:Int}(h:zs[i]?=some z):papF rs a best (zs.take (i+1))=Qjm rs a best (papF rs a best (zs.take i)) z:=by
 unfold papF;rw[Wr h,jJf];rfl
inductive Qrd(K:Fg)(vs:List V)(H:Hp)(Q:VK)(E:XK):Prop|mk(t c:Addr)(rs:List Rw)(cs:List Int)(best:Option Int)(zs:List Int)(_:vs=[.ref t,Vk best,.ref c])(_:ProbAt K H t rs cs)(_:(∀r∈rs,r.1.length=cs.length))(_:SqL K H c (zs.map V.int))(_:zs.length<=100)(_:cs.length<=20)(_:rs.length<=20)(_:∀(g:Addr) (us:List V) (H':Hp),Same H H'->H g=none->H' g=some (.lst us)->LinesAt K H' us (papF rs cs best zs).1->Right rs cs best (papF rs cs best zs).1 (papF rs cs best zs).2->(papF rs cs best zs).1.length<=zs.length->Q (.ref g) H'):Qrd K vs H Q E
def Qdc:Nat->List DL
 |0=>[.low 0]
 |i+1=>Qdc i++[.sm [((i:Int),1+(i:Int) % 2)]]
theorem Wx:∀i,(Qdc i).length=i+1
 |0=>rfl
 |i+1=>by show(Qdc i++[_]).length=_;rw[yQ,Wx i];rfl
theorem Qec{rs:List Rw}{cs:List Int}{best:Option Int}(h:0<cs.length):∀i,i<=1500->∃hd,Right rs cs best (Qdc i) hd
 |0,_=>by
  exists []++[Ya cs.length 0 1 0],?_
  exact Right.snoc (lns:=[]) .nil ⟨Dc,Dc⟩ (Y22 ⟨Dc,Om⟩)
 |i+1,hi=>by
  obtain⟨hd,b⟩:=Qec (rs:=rs) (best:=best) h i Om
  have d:=b.length
  rw[Wx]at d
  have c:Qdj hd [((i:Int),1+(i:Int) % 2)]:=⟨fun z=>(nomatch z),fun p a=>by
   rw[kW.mp a];exists by show(0:Int)<=(i:Int);lia,by show(i:Int)<_;lia⟩
  exists hd++[_],.snoc b ⟨by show 1<=10;decide,fun p a=>?_⟩ (Y22 c)
  rw[kW.mp a]
  exists ⟨by show(0:Int)<=(i:Int);lia,by show(i:Int)<1000000;lia⟩,by show(0:Int)<=1+(i:Int) % 2;lia,by show 1+(i:Int) % 2<=3;lia
theorem Qlg:∀i,∀ln∈Qdc i,ln.names.length<=1
 |0,ln,h=>by rw[kW.mp h];exact jQf _
 |i+1,ln,h=>by
  rcases xW.mp h with z | z
  .exact Qlg i ln z
  .rw[kW.mp z];exact jZ _
def Qvy(K:Fg):Sp:=fun vs H Q _=>vs=[]/\∀(g:Addr) (us:List V) (H':Hp),Same H H'->H g=none->H' g=some (.lst us)->LinesAt K H' us (Qdc 1500)->Q (.ref g) H'
inductive Qvz(K:Fg)(vs:List V)(H:Hp)(Q:VK)(E:XK):Prop|mk(t L:Addr)(rs hd:List Rw)(cs:List Int)(best:Option Int)(us:List V)(lns:List DL)(_:vs=[.ref t,Vk best,.ref L])(_:ProbAt K H t rs cs)(_:(∀r∈rs,r.1.length=cs.length))(_:SqL K H L us)(_:LinesAt K H us lns)(_:Right rs cs best lns hd)(_:cs.length<=20)(_:rs.length<=20)(_:lns.length<=2000)(_:∀(g:Addr) (ws:List V) (H':Hp),Same H H'->H g=none->H' g=some (.lst ws)->RowsAre K H' ws hd->Q (.ref g) H'):Qvz K vs H Q E
inductive Qwa(K:Fg)(vs:List V)(H:Hp)(Q:VK)(E:XK):Prop|mk(t l c:Addr)(ws:List V)(_:vs=[.ref t])(_:SqT K H t [.ref l,.ref c])(_:SqL K H l ws)(_:(∃cs:List V,SqT K H c cs))(_:∀(T g:Addr) (H':Hp),Same H H'->H T=none->H g=none->SqT K H' T [.ref g,.ref c]->H' g=some (.lst ws)->Q (.ref T) H'):Qwa K vs H Q E
abbrev Qlh:Stmt:=top 64
theorem scPaper:FnScope ["_law_problem_here","_law_best","_law_cells","_law_paper_here","_law_heard","_law_cell","_law_line","_law_row_here"] ["_law_problem_here","_law_best","_law_cells"] (Qf Qlh):=Sc
theorem Qxy(F:Fn K mg "_law_paper" Qlh)(M:Mg mg)(D:qC 2 "_law_drawn" ["_law_problem_here","_law_many_seen","_law_cell"] (Qqj K))(X:qC 3 "_law_row" ["_law_problem_here","_law_best","_law_heard","_law_line"] (Qjh K)):qC 4 "_law_paper" ["_law_problem_here","_law_best","_law_cells"] (Qrd K):=by
 refine Xd F scPaper (a:=fun f aw A ap s H vs Q E hr h=>?_)
 obtain⟨t,c,J,N,d,Z,rfl,hP,ad,hc,av,hn,hm,q⟩:=h
 refine⟨_,(Qe (Z4 3 scPaper.nd (Xp Qc))
  (Qe (Z4 4 scPaper.nd (Xp Qc))
  (Qe (Xy PassesOwn.never rfl (Xl (pv 2)) (Z3 5 scPaper.nd) (Qe (Z4 6 scPaper.nd (Xc D (hr.mono Dc) (Qa (pv 0) (Qa (qL (pv 4)) (Qa (pv 5) Qc)))))
  (Qe (Z4 7 scPaper.nd (Xc X (hr.mono Dc) (Qa (pv 0) (Qa (pv 1) (Qa (pv 4) (Qa (pv 6) Qc))))))
  (Qh (Xe (Qq Qnl (pv 7) Xk (Qt _)) (Qe (Zj (Wz Y1 Y2 Y3 Ye (pv 3) (Qa (pv 6) Qc)))
  (Qh (Zj (Wz Y1 Y2 Y3 Ye (pv 4) (Qa (pv 7) Qc))))) Qr)))))
  (Qh (Qp (pv 3)))))),?_⟩
 refine Zl ?_;intros
 exists"z"
 exists Z1 0,fun g hg=>?_
 have s1:=Qb hg (.lst [])
 have h1:upd H g (.lst []) g=some (.lst []):=upd_same
 generalize upd H g (.lst [])=H1 at s1 h1⊢
 exists Z1 0,fun C W=>?_
 have s2:=Qb W (.lst [])
 have h2:upd H1 C (.lst []) C=some (.lst []):=upd_same
 have g2:=s2 _ _ h1
 have an:H C=none:=by
  cases e5:H C with
  |none=>rfl
  |some o=>rw[s1 _ _ e5]at W;cases W
 have ag:g≠C:=fun e=>by rw[e,W]at h1;cases h1
 generalize upd H1 C (.lst [])=H2 at s2 h2 g2⊢
 have ah:=s1.trans s2
 exists 4,c,rfl,⟨_,ah.seq hc⟩,Yq (K:=K) (a:=c) (xs:=Z.map V.int) (fun i σ L=>∃(p S:List V) (v5 v6 v7:Option V),σ=[some (.ref t),some (Vk d),some (.ref c),some (.ref g),some (.ref C),v5,v6,v7]/\L g=some (.lst p)/\L C=some (.lst S)/\LinesN K H2 L p (papF J N d (Z.take i)).1/\RowsAre K L S (papF J N d (Z.take i)).2/\Right J N d (papF J N d (Z.take i)).1 (papF J N d (Z.take i)).2/\(papF J N d (Z.take i)).1.length<=i/\(∀l,L l=none->H2 l=none)/\Same H L) ⟨[],[],none,none,none,rfl,g2,h2,.nil,.nil,.nil,jZ _,fun _ h=>h,ah⟩ (fun i σ L _ h=>?_) ?_ ?_
 .obtain⟨_,_,_,_,_,rfl,_,_,_,_,_,_,_,Y⟩:=h
  exact Y.seq hc
 .rintro i x σ L e1 ⟨p,S,v5,v6,v7,rfl,T,R,n,k,m,B,v,Y⟩
  have hi:=(jW.mp e1).1
  rw[jQ]at hi
  obtain⟨z,ez,rfl⟩:=Xu e1
  have aj:=Qrc J N d ez
  rw[aj]
  clear aj
  have O:=m.len ad
  have ae:=m.length
  have ac:=Paired.length k
  unfold Qjm
  generalize papF J N d (Z.take i)=PF at n k m B O ae ac⊢
  obtain⟨aa,hd⟩:=PF
  dsimp only at n k m B O ae ac⊢
  rw[<-ac]
  have lw:=Paired.length k
  have lu:=Paired.length n
  exists 4,4,C,4,.inl (Qg R),4,t,J,N,_,z,rfl,ProbAt.same Y hP,hn,hm,Om,fun u H4 s4 hD ab=>?_
  generalize Qcx N.length J.length (S.length:Int) z=ln at hD ab⊢
  have ao:=Y.trans s4
  exists 4,4,4,4,t,C,u,J,hd,N,d,S,ln,rfl,ProbAt.same ao hP,ad,Qg (s4 _ _ R),k.imp fun _ _ w=>w.same s4,Om,O,hD.dlat,ab,hn,hm,fun eo U s5=>?_,fun r' eo t' U s5 am=>?_
  .have j:=s4.trans s5
   exists 4,rfl,4,ite2 (fun y=>Y21 y Dc) (fun _=>?_)
   rw[eo]
   exact⟨p,S,_,_,_,rfl,j _ _ T,j _ _ R,Paired.mapP n fun _ _ ⟨u,e,w⟩=>⟨u,e,w.same j⟩,k.imp fun _ _ w=>w.same j,m,by show aa.length<=i+1;lia,fun l e=>v l (by
    cases e5:L l with
    |none=>rfl
    |some o=>rw[j _ _ e5]at e;cases e),Y.trans j⟩
  .have j:=s4.trans s5
   exists 4,rfl,4,ite2 (fun _=>?_) (fun y=>Y21 (show(!decide (V.ref t'=V.non))=true from rfl) y)
   have G:=j _ _ T
   have aq:=j _ _ R
   exists 4,.inl ⟨rfl,_,Qg G⟩,4,g,7,G,Om,?_
   have I:upd U g (.lst (p++[.ref u])) C=some (.lst S):=by rw[Qn ag.symm];exact aq
   have ai:upd U g (.lst (p++[.ref u])) g=some (.lst (p++[.ref u])):=upd_same
   have ak:LinesN K H2 (upd U g (.lst (p++[.ref u]))) (p++[.ref u]) (aa++[ln]):=Paired.snoc (Paired.mapP n fun _ _ ⟨u,e,w⟩=>⟨u,e,(w.same j).updL G (by rw[g2];intro z;cases z)⟩) ⟨u,rfl,((hD.same s5).older v).updL G (by rw[g2];intro z;cases z)⟩
   have al:RowsAre K (upd U g (.lst (p++[.ref u]))) S hd:=k.imp fun _ _ w=>(w.same j).upd G
   have af:RowAt K (upd U g (.lst (p++[.ref u]))) t' r':=RowAt.upd G am
   have s6:Same H (upd U g (.lst (p++[.ref u]))):=fun b o e=>by rw[Qn (Qk e hg)];exact(Y.trans j) _ _ e
   have d6:∀l,upd U g (.lst (p++[.ref u])) l=none->H2 l=none:=fun l e=>by
    by_cases el:l=g
    .rw[el,upd_same]at e;cases e
    .rw[Qn el]at e
     exact v l (by
      cases e5:L l with
      |none=>rfl
      |some o=>rw[j _ _ e5]at e;cases e)
   generalize upd U g (.lst (p++[.ref u]))=H6 at I ai ak al af s6 d6⊢
   exists 4,.inl ⟨rfl,_,Qg I⟩,4,C,7,I,Om,?_
   rw[eo]
   exists p++[.ref u],S++[.ref t'],_,_,4,by rw[Qn ag];exact ai,upd_same,ak.imp fun _ _ w=>w.updL I (by rw[h2];intro z;cases z),RowsAre.snoc (al.imp fun _ _ w=>w.upd I) (RowAt.upd I af),Right.snoc m ab eo,by show(aa++[ln]).length<=i+1;rw[yQ];exact yXa B,fun l e=>?_,fun b o e=>?_
   .by_cases el:l=C
    .rw[el,upd_same]at e;cases e
    .rw[Qn el]at e;exact d6 l e
   .rw[Qn (Qk e an)];exact s6 _ _ e
 .rintro σ L ⟨p,S,v5,v6,v7,rfl,T,R,n,k,m,B,v,Y⟩
  rw[jQ]at n k m B
  rw[wV]at n k m B
  exists 4,q g p L Y hg T (Paired.mapP n fun _ _ ⟨u,e,w⟩=>⟨u,e,w.dlat⟩) m Om
abbrev Quo:Stmt:=top 66
abbrev Qfw:Stmt:=top 61
abbrev Qfx:Stmt:=top 50
theorem scLong:FnScope ["_law_paper_here","_law_k"] [] (Qf Quo):=Sc
theorem okLong(F:Fn K mg "_law_long" Quo)(M:Mg mg):qC 1 "_law_long" [] (Qvy K):=by
 refine Xd F scLong (fun _ _ _ _ _ _=>bind0 rfl) (fun vs H Q E h=>?_) (fun f ad A D s H vs Q E hr h=>?_)
 .obtain⟨rfl,_⟩:=h
  rfl
 obtain⟨rfl,q⟩:=h
 refine⟨_,(Qe (Z4 0 scLong.nd (Xp (Qa (Xh (Qa Xi (Qa Qd Qc))) Qc)))
  (Qe (Xy PassesOwn.never rfl (Yi rfl M.range_ (Qa Qd Qc)) (Z3 1 scLong.nd) (Qh (Zj (Wz Y1 Y2 Y3 Ye (pv 0) (Qa (Xh (Qa Xi (Qa (Xp (Qa (Xh (Qa (pv 1) (Qa (Qx Yw Qd (Qx Yx (pv 1) Qd)) Qc))) Qc)) Qc))) Qc)))))
  (Qh (Qp (pv 0))))),?_⟩
 refine Zd ?_;intros
 exists"z"
 exists Z1 2,fun p hp=>?_
 have N:=Qb hp (.tup [.str "low",.int 0])
 have b1:upd H p (.tup [.str "low",.int 0]) p=some (.tup [.str "low",.int 0]):=upd_same
 generalize upd H p (.tup [.str "low",.int 0])=H1 at N b1⊢
 exists Z1 1,fun g T=>?_
 have C:=Qb T (.lst [.ref p])
 have U:upd H1 g (.lst [.ref p]) g=some (.lst [.ref p]):=upd_same
 have Y:H g=none:=by
  cases x:H g with
  |none=>rfl
  |some o=>rw[N _ _ x]at T;cases T
 generalize upd H1 g (.lst [.ref p])=H2 at C U⊢
 let y:Nat->St->Hp->Prop:=fun i J c=>∃(v:List V) (O:Option V),J=[some (.ref g),O]/\c g=some (.lst v)/\LinesN K H2 c v (Qdc i)/\(∀l,c l=none->H2 l=none)/\Same H c
 exists 1500,rfl,Dc,Dc,Jf (lo:=0) (n:=Int.toNat 1500) y ⟨_,none,rfl,U,.cons ⟨p,rfl,Ql (C _ _ b1)⟩ .nil,fun _ h=>h,N.trans C⟩ ?_ ?_
 .rintro i J c hi ⟨v,O,rfl,d,j,a,G⟩
  have aa:=Wx i
  have ac:i<1500:=hi
  have lu:=Paired.length j
  rw[yXc]
  exists 4,.inl ⟨rfl,_,Qg d⟩,4,4,7,by show(0:Int)<2;decide,_,_,rfl,rfl,Z1 2,fun m S=>?_
  have W:=Qb S (.tup [.int ((i:Int)),.int (1+((i:Int)) % 2)])
  have b4:upd c m (.tup [.int ((i:Int)),.int (1+((i:Int)) % 2)]) m=some (.tup [.int ((i:Int)),.int (1+((i:Int)) % 2)]):=upd_same
  generalize upd c m (.tup [.int ((i:Int)),.int (1+((i:Int)) % 2)])=H4 at W b4⊢
  exists Z1 1,fun L I=>?_
  have R:=Qb I (.lst [.ref m])
  have Z:upd H4 L (.lst [.ref m]) L=some (.lst [.ref m]):=upd_same
  have L0:H2 L=none:=a L (by
   cases x:c L with
   |none=>rfl
   |some o=>rw[W _ _ x]at I;cases I)
  generalize upd H4 L (.lst [.ref m])=H5 at R Z⊢
  exists Z1 2,fun t ht=>?_
  have B:=Qb ht (.tup [.str "sum",.ref L])
  have X:upd H5 t (.tup [.str "sum",.ref L]) t=some (.tup [.str "sum",.ref L]):=upd_same
  generalize upd H5 t (.tup [.str "sum",.ref L])=H6 at B X⊢
  have k:=(W.trans R).trans B
  have r:=k _ _ d
  have hN:DLN K H2 H6 t (.sm [((i:Int),1+((i:Int)) % 2)]):=⟨L,_,L0,Ql X,B _ _ Z,.cons ⟨m,rfl,Ql ((R.trans B) _ _ b4)⟩ .nil⟩
  have g2:H2 g≠none:=by rw[U];intro z;cases z
  exists g,7,r,Om,v++[.ref t],4,upd_same,Paired.snoc ((j.imp fun _ _ w=>(w.same k).updL r g2)) ⟨t,rfl,hN.updL r g2⟩,fun l e=>?_,fun b o e=>?_
  .by_cases el:l=g
   .rw[el,upd_same]at e;cases e
   .rw[Qn el]at e
    exact a l (by
     cases x:c l with
     |none=>rfl
     |some o=>rw[k _ _ x]at e;cases e)
  .rw[Qn (Qk e Y)];exact k _ _ (G _ _ e)
 .rintro J c ⟨v,O,rfl,d,j,a,G⟩
  exists 4,q g v c G Y d (Paired.mapP j fun _ _ ⟨u,e,w⟩=>⟨u,e,w.dlat⟩)
theorem scTold32:FnScope ["_law_problem_here","_law_best","_law_paper_here","_law_heard","_law_line","_law_row_here"] ["_law_problem_here","_law_best","_law_paper_here"] (Qf Qfw):=Sc
theorem Qup(F:Fn K mg "_law_told" Qfw)(M:Mg mg)(k:qC 3 "_law_row" ["_law_problem_here","_law_best","_law_heard","_law_line"] (Qjh K)):qC 4 "_law_told" ["_law_problem_here","_law_best","_law_paper_here"] (Qvz K):=by
 refine Xd F scTold32 (a:=fun f af A S s H vs Q E O h=>?_)
 obtain⟨t,L,rs,T,cs,d,us,aa,rfl,hP,D,U,B,N,hn,hm,ae,q⟩:=h
 refine⟨_,(Qe (Z4 3 scTold32.nd (Xp Qc))
  (Qe (Xe (Xq (Xj (Qi Xm rfl M.isinstance Qw (Qa (pv 2) (Qa (Jl M.list_ Yj) Qc))))) (Qh (Qp Xk)) Qr)
  (Qe (Xy PassesOwn.never rfl (Xl (pv 2)) (Z3 4 scTold32.nd) (Qe (Z4 5 scTold32.nd (Xc k (O.mono Dc) (Qa (pv 0) (Qa (pv 1) (Qa (pv 3) (Qa (pv 4) Qc))))))
  (Qe (Xe (Qq Qgf (pv 5) Xk (Qt _)) (Qh (Qp Xk)) Qr)
  (Qh (Zj (Wz Y1 Y2 Y3 Ye (pv 3) (Qa (pv 5) Qc)))))))
  (Qh (Qp (pv 3)))))),?_⟩
 refine Zl ?_;intros
 exists"z"
 have lu:=Paired.length B
 have ab:=N.length
 have R:=N.len D
 exists Z1 0,fun g Z=>?_
 have I:=Qb Z (.lst [])
 have b1:upd H g (.lst []) g=some (.lst []):=upd_same
 generalize upd H g (.lst [])=H1 at I b1⊢
 exists 4,_,"list",true,rfl,.list,.inr ⟨⟨_,I.seq U⟩,rfl⟩,4,iteF ?_
 let C:Nat->St->Hp->Prop:=fun i G n=>∃(m:List V) (X W:Option V),G=[some (.ref t),some (Vk d),some (.ref L),some (.ref g),X,W]/\n g=some (.lst m)/\RowsAre K n m (T.take i)/\m.length=i/\Same H n
 exists 4,L,rfl,⟨_,I.seq U⟩,Yq (K:=K) (a:=L) (xs:=us) C ⟨[],none,none,rfl,b1,.nil,rfl,I⟩ (fun i G n _ h=>?_) ?_ ?_
 .obtain⟨_,_,_,rfl,_,_,_,p⟩:=h
  exact p.seq U
 .rintro i x G n e1 ⟨m,X,W,rfl,l,c,lw,p⟩
  have hi:=(jW.mp e1).1
  obtain⟨ln,el,u,rfl,hD⟩:=L2.Xx B e1
  obtain⟨o,r,er,eo⟩:=N.at el
  exists 4,4,4,4,t,g,u,rs,T.take i,cs,d,m,ln,rfl,ProbAt.same p hP,D,Qg l,c,by rw[yY];lia,fun r O=>R r (kJf O),hD.same p,o,hn,hm,fun z=>(by rw[eo]at z;cases z),fun r' v t' H3 J Y=>?_
  rw[eo]at v
  cases v
  have j:=J _ _ l
  exists 4,rfl,4,ite2 (fun y=>Y21 (kZ y) (fun z=>nomatch z)) (fun _=>?_)
  exists 4,.inl ⟨rfl,_,Qg j⟩,4,g,7,j,Om,?_
  exists m++[.ref t'],_,4,upd_same,?_,by rw[yQ,lw];rfl,fun b o e=>?_
  .rw[Wr er]
   exact RowsAre.snoc (c.imp fun _ _ w=>(w.same J).upd j) (RowAt.upd j Y)
  .rw[Qn (Qk e Z)];exact J _ _ (p _ _ e)
 .rintro G n ⟨m,X,W,rfl,l,c,lw,p⟩
  rw[yW Om]at c
  exists 4,q g m n p Z l c
theorem Quq:FnScope ["_law_problem_here"] ["_law_problem_here"] (Qf Qfx):=Sc
theorem Qur(F:Fn K mg "_law_copy" Qfx)(M:Mg mg):qC 1 "_law_copy" ["_law_problem_here"] (Qwa K):=by
 refine Xd F Quq (fun _ _ _ _ _ _=>bind1 (fun _=>rfl)) (fun p H Q E h=>?_) (fun f n A d s H p Q E u h=>?_)
 .obtain⟨t,l,c,a,rfl,_⟩:=h
  rfl
 obtain⟨t,l,c,a,rfl,m,o,⟨v,r⟩,q⟩:=h
 exists _,(Qh (Qp (Xh (Qa (Qz Ym rfl M.list_ Yj (Qa (Qo Qm (pv 0) Qd) Qc)) (Qa (Qo Qm (pv 0) Qd) Qc))))),?_
 exists 4,t,8,m,at0,l,4,.inl o,fun g i=>?_
 have b:=Qb i (.lst a)
 have j:upd H g (.lst a) g=some (.lst a):=upd_same
 generalize upd H g (.lst a)=H1 at b j⊢
 exists 4,t,8,b.tup m,at1,Z1 2,fun T k=>?_
 have e:=Qb k (.tup [.ref g,.ref c])
 exact q T g _ (b.trans e) (Kf b k) i (Ql upd_same) (e _ _ j)
theorem Qus{N k:Nat}{g:Nat->V}(h:k<N):atI ((List.range N).map g) ((k:Nat):Int)=some (g k):=Zy (by rw[jY,jYa h];rfl)
theorem Qre{N k:Nat}{g:Nat->V}:((List.range N).map g).set k v=(List.range N).map (fun d=>if d=k then v else g d):=by
 refine List.ext_getElem (by simp) fun i b a=>?_
 rw[List.getElem_set]
 by_cases e:k=i
 .subst e;simp
 .rw[Y20 e]
  simp[show ¬i=k from fun z=>e z.symm]
theorem eqStr{y:Str}(h:decide (V.str x=V.str y)=true):x=y:=V.str.inj (kZ h)
theorem neStr{y:Str}(h:¬decide (V.str x=V.str y)=true):x≠y:=fun z=>h (zX (congrArg V.str z))
def Qrf:DL->Str
 |.giv _=>"given"
 |.low _=>"low"
 |.high _=>"high"
 |.bet=>"better"
 |.sm _=>"sum"
 |.shr _ _=>"share"
 |.sht _ _=>"shut"
 |.eit _ _ _=>"either"
 |.lik _=>"like"
theorem Qrg{u:Addr}(h:DLAt K H u ln):∃vs,SqT K H u (.str (Qrf ln)::vs):=by
 cases ln with
 |sm ps=>obtain⟨l,a,_⟩:=h;exists _,a
 |sht o hs=>obtain⟨l,a,_⟩:=h;exists _,a
 |lik t=>obtain⟨l,a,_⟩:=h;exists _,a
 |giv k=>exists _,h
 |low k=>exists _,h
 |high k=>exists _,h
 |bet=>exists _,h
 |shr o b=>exists _,h
 |eit o p c=>exists _,h
theorem wd_sm(h:Qrf ln="sum"):∃ps,ln=.sm ps:=by cases ln<;>first | exact⟨_,rfl⟩ | (dsimp only[Qrf]at h;exact Y21 h Dk)
theorem wd_eit(h:Qrf ln="either"):∃o p c,ln=.eit o p c:=by cases ln<;>first | exact⟨_,_,_,rfl⟩ | (dsimp only[Qrf]at h;exact Y21 h Dk)
theorem atW:atI (v::vs) 0=some v:=Zy (j:=0) rfl
inductive Qli(K:Fg)(vs:List V)(H:Hp)(Q:VK)(E:XK):Prop|mk(L:Addr)(us:List V)(lns:List DL)(_:vs=[.ref L])(_:SqL K H L us)(_:LinesAt K H us lns)(_:Kd lns)(_:0<lns.length)(_:lns.length<=2000)(_:∀H',Same H H'->Q (.int (((dueL lns).length:Nat):Int)) H'):Qli K vs H Q E
def Qav(lns:List DL)(i:Nat):List V:=(List.range lns.length).map fun k:Nat=>V.bl (mkd lns i (k:Int))
abbrev Qdd:Stmt:=top 65
theorem scRestsL:FnScope ["_law_paper_here","_law_marks","_law_k","_law_line","_law_named","_law_place"] ["_law_paper_here"] (Qf Qdd):=Sc
theorem Qut(F:Fn K mg "_law_rests" Qdd)(M:Mg mg):qC 1 "_law_rests" ["_law_paper_here"] (Qli K):=by
 refine Xd F scRestsL (a:=fun f aE A aB s H vs Q E hr h=>?_)
 obtain⟨L,us,m,rfl,hL,au,ax,h0,aD,q⟩:=h
 have W:=Z6 1 hr.un
 refine⟨_,(Qe (Qei (i:=1) ["_law_k","_law_paper_here"] [none,some 0] rfl scRestsL.nd rfl (inl rfl) (Yi rfl M.range_ (Qa (qL (pv 0)) Qc)) (fun _ _ _=>(Z3 0 (show(["_law_k","_law_paper_here"]:List Str).Nodup by decide +kernel))) (fun _ _ _=>Yf) (fun _ _ _=>(Ze Xz (pv 0) (Qx Yr (Qi (Qep (K:=K) rfl) rfl M.len Qy (Qa (pv 1) Qc)) Qd) (Qt _))))
  (Qe (Xy PassesOwn.never rfl (Wd rfl M.range_ (Qa (Qx Yr (qL (pv 0)) Qd) (Qa (Jr Zg Qd) (Qa (Jr Zg Qd) Qc)))) (Z3 2 scRestsL.nd) (Qe (Z4 3 scRestsL.nd (Qo ix_list (pv 0) (pv 2)))
  (Qe (Z4 4 scRestsL.nd (Qx Kq (Qz Ym rfl M.list_ Yj (Qa (Za Qdm (pv 3) (Yt Qd) (Yt Qd)) Qc)) (Qz Qgh rfl M.int_ Qdo (Qa (Ze Vx (Qo Qm (pv 3) Qd) (Xh (Qa Xi (Qa Xi Qc))) rfl) Qc))))
  (Qe (Xe (Qq Xz (Qo Qm (pv 3) Qd) Xi (Qt _)) (Qh (Qei (i:=4) ["_law_part"] [none] rfl scRestsL.nd rfl (inl rfl) (Xl (Qo Qm (pv 3) Qd)) (fun _ _ _=>(Z3 0 Z2)) (fun _ _ _=>Yf) (fun _ _ _=>(Qo (Zr (K:=K) rfl) (pv 0) Qd)))) Qr)
  (Qe (Xe (Qq Xz (Qo Qm (pv 3) Qd) Xi (Qt _)) (Qh (Z4 4 scRestsL.nd (Xp (Qa (Qo Qm (pv 3) Qd) (Qa (Qo Qm (pv 3) Qd) Qc))))) Qr)
  (Qh (Xe (Xj (Qo ix_list (pv 1) (pv 2))) (Qh (Xy PassesOwn.never rfl (Xl (pv 4)) (Z3 5 scRestsL.nd) (Qh (Zo Qbq (Kg (pv 1) (pv 5) set_list))))) Qr)))))))
  (Qh (Qp (qL (Zv ["_law_mark"] [none] rfl (Xl (pv 1)) (fun _ _ _=>(Z3 0 Z2)) (fun _ _ _=>(Qnu (Xj (pv 0)))) (fun _ _ _=>(pv 0)))))))),?_⟩
 exists"z"
 have lu:=Paired.length au
 exists 4,L,4,.inl hL,4,Om,Om,fun D hD=>?_
 refine Qfo (n:=m.length) (fun τ=>∃v:Option V,τ=[v,some (.ref L)]) (fun _=>true) (fun k=>V.bl (mkd m 0 (k:Int))) hD Om ⟨none,rfl⟩ (fun i H5 hi s5=>by show i<Int.toNat _;lia) (fun H5 s5=>by show Int.toNat _<=_;lia) ?_ (fun H7 k7 al=>?_)
 .rintro i τ H5 x H9 hi ⟨v,rfl⟩ s5 ⟨rfl,rfl⟩ P1 P2 h1 h2
  have:=h1 rfl [some (.int (0+(i:Int))),some (.ref L)] _ ⟨_,rfl⟩ (Same.refl _)
  have eb:V.bl (mkd m 0 (i:Int))=V.bl (decide (V.int (0+(i:Int))=V.int ((us.length:Int)-1))):=by
   show V.bl (decide ((i:Int)=(m.length:Int)-1))=_
   rw[lu,Qhl,yXc]
  rw[eb]at this
  exists 4,4,L,4,.inl (s5.seq hL),7,rfl,this
 rw[Qbj]at al
 have al:H7 D=some (.lst (Qav m 0)):=al
 exists 4,L,4,.inl (k7.seq hL),7,4,4,?_
 rw[lu]
 exists _,_,4,⟨Dc,Dc,Wi Om⟩,Vb (lo:=(m.length:Int)-1) (c:=-1) (n:=(Builtin.Range.rangeSize ((m.length:Int)-1) (-1) (-1)).toNat) (fun i σ Z=>∃v2 v3 v4 X:Option V,σ=[some (.ref L),some (.ref D),v2,v3,v4,X]/\Z D=some (.lst (Qav m i))/\Same H Z) ⟨none,none,none,none,rfl,al,k7⟩ ?_ ?_
 .rintro i σ Z hi ⟨v2,v3,v4,X,rfl,B,k8⟩
  rw[Zk]at hi
  have ec:(m.length:Int)-1+((i:Nat):Int)*(-1)=((m.length-1-i:Nat):Int):=Om
  rw[ec]
  have ay:(m.length:Int)-1-(i:Int)=((m.length-1-i:Nat):Int):=Om
  obtain⟨u,ln,eu,el,ah⟩:=Qft au (i:=m.length-1-i) Om
  have ak:∀p,mkd m (i+1) p=(mkd m i p||(mkd m i ((m.length-1-i:Nat):Int)&&decide (p∈ln.names))):=fun p=>by
   show(mkd m i p||(mkd m i ((m.length:Int)-1-(i:Int))&&decide (p∈nmAt m (m.length-1-i))))=_
   rw[ay,Kx el]
  have an:=ax _ ln el
  have ao:m.length-1-i<m.length:=Om
  generalize m.length-1-i=num at eu el ak an ao⊢
  exists 4,4,L,8,k8.seq hL,Zy eu,?_
  refine Qku (fun ac H'=>∃(l9:Addr) (nm:List Int) (X:Option V),ac=[some (.ref L),some (.ref D),some (.int ((num:Nat):Int)),some (.ref u),some (.ref l9),X]/\H' l9=some (.lst (nm.map V.int))/\l9≠D/\(nm=ln.names\/(∃ps,ln=.sm ps)\/∃o p c,ln=.eit o p c)/\H' D=some (.lst (Qav m i))/\Same H H') ?_ fun N0=>?_
  rotate_left
  .have aa:=ah.same k8
   clear el ah an ak
   cases ln with
   |giv k=>
    have W:SqT K Z u _:=aa
    exists 4,4,4,u,4,W,fun z=>jQc 0 z.1,fun C S=>?_
    rw[show cutV [V.str "given",.int k] (some 1) (some 2)=[.int k]from rfl]
    have U:=Qb S (.tup [.int k])
    have b1:upd Z C (.tup [.int k]) C=some (.tup [.int k]):=upd_same
    generalize upd Z C (.tup [.int k])=J1 at U b1⊢
    exists C,4,.inr (Ql b1),fun G N=>?_
    have O:=Qb N (.lst [.int k])
    have b2:upd J1 G (.lst [.int k]) G=some (.lst [.int k]):=upd_same
    generalize upd J1 G (.lst [.int k])=J2 at O b2⊢
    exists 4,u,8,(U.trans O).tup W,at0,Z1 2,fun T hT=>?_
    have R:=Qb hT (.tup (qA 0))
    have b3:SqT K (upd J2 T (.tup (qA 0))) T (qA 0):=Ql upd_same
    generalize upd J2 T (.tup (qA 0))=J3 at R b3⊢
    exists T,4,.inr b3,rfl,rfl,.inr ⟨_,rfl,?_⟩
    rw[Y20 Dk]
    have r:=(U.trans O).trans R
    exists G,0,4,rfl,R _ _ b2,Dc,Dc,Z1 0,fun g I=>?_
    have Y:=Qb I (.lst (qg 0 ([.int k]:List V)).flatten)
    exact N0 _ _ ⟨g,[],X,rfl,upd_same,fun z=>(by rw[z,r _ _ B]at I;cases I),.inl rfl,(r.trans Y) _ _ B,k8.trans (r.trans Y)⟩
   |low k=>
    have W:SqT K Z u _:=aa
    exists 4,4,4,u,4,W,fun z=>jQc 0 z.1,fun C S=>?_
    rw[show cutV [V.str "low",.int k] (some 1) (some 2)=[.int k]from rfl]
    have U:=Qb S (.tup [.int k])
    have b1:upd Z C (.tup [.int k]) C=some (.tup [.int k]):=upd_same
    generalize upd Z C (.tup [.int k])=J1 at U b1⊢
    exists C,4,.inr (Ql b1),fun G N=>?_
    have O:=Qb N (.lst [.int k])
    have b2:upd J1 G (.lst [.int k]) G=some (.lst [.int k]):=upd_same
    generalize upd J1 G (.lst [.int k])=J2 at O b2⊢
    exists 4,u,8,(U.trans O).tup W,at0,Z1 2,fun T hT=>?_
    have R:=Qb hT (.tup (qA 0))
    have b3:SqT K (upd J2 T (.tup (qA 0))) T (qA 0):=Ql upd_same
    generalize upd J2 T (.tup (qA 0))=J3 at R b3⊢
    exists T,4,.inr b3,rfl,rfl,.inr ⟨_,rfl,?_⟩
    rw[Y20 Dk]
    have r:=(U.trans O).trans R
    exists G,0,4,rfl,R _ _ b2,Dc,Dc,Z1 0,fun g I=>?_
    have Y:=Qb I (.lst (qg 0 ([.int k]:List V)).flatten)
    exact N0 _ _ ⟨g,[],X,rfl,upd_same,fun z=>(by rw[z,r _ _ B]at I;cases I),.inl rfl,(r.trans Y) _ _ B,k8.trans (r.trans Y)⟩
   |high k=>
    have W:SqT K Z u _:=aa
    exists 4,4,4,u,4,W,fun z=>jQc 0 z.1,fun C S=>?_
    rw[show cutV [V.str "high",.int k] (some 1) (some 2)=[.int k]from rfl]
    have U:=Qb S (.tup [.int k])
    have b1:upd Z C (.tup [.int k]) C=some (.tup [.int k]):=upd_same
    generalize upd Z C (.tup [.int k])=J1 at U b1⊢
    exists C,4,.inr (Ql b1),fun G N=>?_
    have O:=Qb N (.lst [.int k])
    have b2:upd J1 G (.lst [.int k]) G=some (.lst [.int k]):=upd_same
    generalize upd J1 G (.lst [.int k])=J2 at O b2⊢
    exists 4,u,8,(U.trans O).tup W,at0,Z1 2,fun T hT=>?_
    have R:=Qb hT (.tup (qA 0))
    have b3:SqT K (upd J2 T (.tup (qA 0))) T (qA 0):=Ql upd_same
    generalize upd J2 T (.tup (qA 0))=J3 at R b3⊢
    exists T,4,.inr b3,rfl,rfl,.inr ⟨_,rfl,?_⟩
    rw[Y20 Dk]
    have r:=(U.trans O).trans R
    exists G,0,4,rfl,R _ _ b2,Dc,Dc,Z1 0,fun g I=>?_
    have Y:=Qb I (.lst (qg 0 ([.int k]:List V)).flatten)
    exact N0 _ _ ⟨g,[],X,rfl,upd_same,fun z=>(by rw[z,r _ _ B]at I;cases I),.inl rfl,(r.trans Y) _ _ B,k8.trans (r.trans Y)⟩
   |bet=>
    have W:SqT K Z u _:=aa
    exists 4,4,4,u,4,W,fun z=>jQc 0 z.1,fun C S=>?_
    rw[show cutV [V.str "better"] (some 1) (some 2)=[]from rfl]
    have U:=Qb S (.tup [])
    have b1:upd Z C (.tup []) C=some (.tup []):=upd_same
    generalize upd Z C (.tup [])=J1 at U b1⊢
    exists C,4,.inr (Ql b1),fun G N=>?_
    have O:=Qb N (.lst [])
    have b2:upd J1 G (.lst []) G=some (.lst []):=upd_same
    generalize upd J1 G (.lst [])=J2 at O b2⊢
    exists 4,u,8,(U.trans O).tup W,at10,Z1 2,fun T hT=>?_
    have R:=Qb hT (.tup (qA 0))
    have b3:SqT K (upd J2 T (.tup (qA 0))) T (qA 0):=Ql upd_same
    generalize upd J2 T (.tup (qA 0))=J3 at R b3⊢
    exists T,4,.inr b3,rfl,rfl,.inr ⟨_,rfl,?_⟩
    rw[Y20 Dk]
    have r:=(U.trans O).trans R
    exists G,0,4,rfl,R _ _ b2,Dc,Dc,Z1 0,fun g I=>?_
    have Y:=Qb I (.lst (qg 0 ([]:List V)).flatten)
    exact N0 _ _ ⟨g,[],X,rfl,upd_same,fun z=>(by rw[z,r _ _ B]at I;cases I),.inl rfl,(r.trans Y) _ _ B,k8.trans (r.trans Y)⟩
   |lik t=>
    obtain⟨l,W,_⟩:=id aa
    exists 4,4,4,u,4,W,fun z=>jQc 0 z.1,fun C S=>?_
    rw[show cutV [V.str "like",.ref l] (some 1) (some 2)=[.ref l]from rfl]
    have U:=Qb S (.tup [.ref l])
    have b1:upd Z C (.tup [.ref l]) C=some (.tup [.ref l]):=upd_same
    generalize upd Z C (.tup [.ref l])=J1 at U b1⊢
    exists C,4,.inr (Ql b1),fun G N=>?_
    have O:=Qb N (.lst [.ref l])
    have b2:upd J1 G (.lst [.ref l]) G=some (.lst [.ref l]):=upd_same
    generalize upd J1 G (.lst [.ref l])=J2 at O b2⊢
    exists 4,u,8,(U.trans O).tup W,at0,Z1 2,fun T hT=>?_
    have R:=Qb hT (.tup (qA 0))
    have b3:SqT K (upd J2 T (.tup (qA 0))) T (qA 0):=Ql upd_same
    generalize upd J2 T (.tup (qA 0))=J3 at R b3⊢
    exists T,4,.inr b3,rfl,rfl,.inr ⟨_,rfl,?_⟩
    rw[Y20 Dk]
    have r:=(U.trans O).trans R
    exists G,0,4,rfl,R _ _ b2,Dc,Dc,Z1 0,fun g I=>?_
    have Y:=Qb I (.lst (qg 0 ([.ref l]:List V)).flatten)
    exact N0 _ _ ⟨g,[],X,rfl,upd_same,fun z=>(by rw[z,r _ _ B]at I;cases I),.inl rfl,(r.trans Y) _ _ B,k8.trans (r.trans Y)⟩
   |sm ps=>
    obtain⟨l,W,_⟩:=id aa
    exists 4,4,4,u,4,W,fun z=>jQc 0 z.1,fun C S=>?_
    rw[show cutV [V.str "sum",.ref l] (some 1) (some 2)=[.ref l]from rfl]
    have U:=Qb S (.tup [.ref l])
    have b1:upd Z C (.tup [.ref l]) C=some (.tup [.ref l]):=upd_same
    generalize upd Z C (.tup [.ref l])=J1 at U b1⊢
    exists C,4,.inr (Ql b1),fun G N=>?_
    have O:=Qb N (.lst [.ref l])
    have b2:upd J1 G (.lst [.ref l]) G=some (.lst [.ref l]):=upd_same
    generalize upd J1 G (.lst [.ref l])=J2 at O b2⊢
    exists 4,u,8,(U.trans O).tup W,at0,Z1 2,fun T hT=>?_
    have R:=Qb hT (.tup (qA 0))
    have b3:SqT K (upd J2 T (.tup (qA 0))) T (qA 0):=Ql upd_same
    generalize upd J2 T (.tup (qA 0))=J3 at R b3⊢
    exists T,4,.inr b3,rfl,rfl,.inr ⟨_,rfl,?_⟩
    rw[Y20 Dk]
    have r:=(U.trans O).trans R
    exists G,0,4,rfl,R _ _ b2,Dc,Dc,Z1 0,fun g I=>?_
    have Y:=Qb I (.lst (qg 0 ([.ref l]:List V)).flatten)
    exact N0 _ _ ⟨g,[],X,rfl,upd_same,fun z=>(by rw[z,r _ _ B]at I;cases I),.inr (.inl ⟨_,rfl⟩),(r.trans Y) _ _ B,k8.trans (r.trans Y)⟩
   |shr o b=>
    have W:SqT K Z u _:=aa
    exists 4,4,4,u,4,W,fun z=>jQc 0 z.1,fun C S=>?_
    rw[show cutV [V.str "share",.int o,.int b] (some 1) (some 2)=[.int o]from rfl]
    have U:=Qb S (.tup [.int o])
    have b1:upd Z C (.tup [.int o]) C=some (.tup [.int o]):=upd_same
    generalize upd Z C (.tup [.int o])=J1 at U b1⊢
    exists C,4,.inr (Ql b1),fun G N=>?_
    have O:=Qb N (.lst [.int o])
    have b2:upd J1 G (.lst [.int o]) G=some (.lst [.int o]):=upd_same
    generalize upd J1 G (.lst [.int o])=J2 at O b2⊢
    exists 4,u,8,(U.trans O).tup W,at30,Z1 2,fun T hT=>?_
    have R:=Qb hT (.tup (qA 0))
    have b3:SqT K (upd J2 T (.tup (qA 0))) T (qA 0):=Ql upd_same
    generalize upd J2 T (.tup (qA 0))=J3 at R b3⊢
    exists T,4,.inr b3,rfl,rfl,.inr ⟨_,rfl,?_⟩
    rw[Y22 Dk]
    have r:=(U.trans O).trans R
    exists G,1,4,rfl,R _ _ b2,Dc,Dc,Z1 1,fun g I=>?_
    have Y:=Qb I (.lst (qg 1 ([.int o]:List V)).flatten)
    exact N0 _ _ ⟨g,[o],X,rfl,upd_same,fun z=>(by rw[z,r _ _ B]at I;cases I),.inl rfl,(r.trans Y) _ _ B,k8.trans (r.trans Y)⟩
   |sht o hs=>
    obtain⟨l,W,_⟩:=id aa
    exists 4,4,4,u,4,W,fun z=>jQc 0 z.1,fun C S=>?_
    rw[show cutV [V.str "shut",.int o,.ref l] (some 1) (some 2)=[.int o]from rfl]
    have U:=Qb S (.tup [.int o])
    have b1:upd Z C (.tup [.int o]) C=some (.tup [.int o]):=upd_same
    generalize upd Z C (.tup [.int o])=J1 at U b1⊢
    exists C,4,.inr (Ql b1),fun G N=>?_
    have O:=Qb N (.lst [.int o])
    have b2:upd J1 G (.lst [.int o]) G=some (.lst [.int o]):=upd_same
    generalize upd J1 G (.lst [.int o])=J2 at O b2⊢
    exists 4,u,8,(U.trans O).tup W,at30,Z1 2,fun T hT=>?_
    have R:=Qb hT (.tup (qA 0))
    have b3:SqT K (upd J2 T (.tup (qA 0))) T (qA 0):=Ql upd_same
    generalize upd J2 T (.tup (qA 0))=J3 at R b3⊢
    exists T,4,.inr b3,rfl,rfl,.inr ⟨_,rfl,?_⟩
    rw[Y22 Dk]
    have r:=(U.trans O).trans R
    exists G,1,4,rfl,R _ _ b2,Dc,Dc,Z1 1,fun g I=>?_
    have Y:=Qb I (.lst (qg 1 ([.int o]:List V)).flatten)
    exact N0 _ _ ⟨g,[o],X,rfl,upd_same,fun z=>(by rw[z,r _ _ B]at I;cases I),.inl rfl,(r.trans Y) _ _ B,k8.trans (r.trans Y)⟩
   |eit o p c=>
    have W:SqT K Z u _:=aa
    exists 4,4,4,u,4,W,fun z=>jQc 0 z.1,fun C S=>?_
    rw[show cutV [V.str "either",.int o,.int p,.int c] (some 1) (some 2)=[.int o]from rfl]
    have U:=Qb S (.tup [.int o])
    have b1:upd Z C (.tup [.int o]) C=some (.tup [.int o]):=upd_same
    generalize upd Z C (.tup [.int o])=J1 at U b1⊢
    exists C,4,.inr (Ql b1),fun G N=>?_
    have O:=Qb N (.lst [.int o])
    have b2:upd J1 G (.lst [.int o]) G=some (.lst [.int o]):=upd_same
    generalize upd J1 G (.lst [.int o])=J2 at O b2⊢
    exists 4,u,8,(U.trans O).tup W,at40,Z1 2,fun T hT=>?_
    have R:=Qb hT (.tup (qA 0))
    have b3:SqT K (upd J2 T (.tup (qA 0))) T (qA 0):=Ql upd_same
    generalize upd J2 T (.tup (qA 0))=J3 at R b3⊢
    exists T,4,.inr b3,rfl,rfl,.inr ⟨_,rfl,?_⟩
    rw[Y20 Dk]
    have r:=(U.trans O).trans R
    exists G,0,4,rfl,R _ _ b2,Dc,Dc,Z1 0,fun g I=>?_
    have Y:=Qb I (.lst (qg 0 ([.int o]:List V)).flatten)
    exact N0 _ _ ⟨g,[],X,rfl,upd_same,fun z=>(by rw[z,r _ _ B]at I;cases I),.inr (.inr ⟨_,_,_,rfl⟩),(r.trans Y) _ _ B,k8.trans (r.trans Y)⟩
  rintro ac J ⟨l9,nm,X,rfl,ad,ai,aj,ab,kJ⟩
  refine Qpq (fun ac H'=>∃(l9:Addr) (nm:List Int) (X:Option V),ac=[some (.ref L),some (.ref D),some (.int ((num:Nat):Int)),some (.ref u),some (.ref l9),X]/\H' l9=some (.lst (nm.map V.int))/\l9≠D/\(nm=ln.names\/∃o p c,ln=.eit o p c)/\H' D=some (.lst (Qav m i))/\Same H H') ?_ fun N1=>?_
  rotate_left
  .obtain⟨wr,hw⟩:=Qrg (ah.same kJ)
   exists 4,u,8,hw,atW,rfl,4,ite2 (fun y=>?_) (fun y=>?_)
   .obtain⟨ps,rfl⟩:=wd_sm (eqStr y)
    obtain⟨l,W,ws,am,aw⟩:=ah.same kJ
    have lv:=aw.length
    rw[jQ]at lv
    have aC:ps.length<=100:=an.1
    exists 4,u,8,W,at1,l,rfl,⟨_,am⟩,fun D2 ap=>?_
    refine Qfo (n:=ps.length) (fun τ=>∃v:Option V,τ=[v]) (fun _=>true) (fun k=>V.int ((ps.map (·.1)).getD k 0)) ap Om ⟨none,rfl⟩ (fun k H5 hk s5=>⟨ws,ws[k]'Om,s5.seq am,gE Om⟩) (fun H5 s5=>⟨ws,s5.seq am,Om⟩) ?_ (fun J2 ar hE=>?_)
    .rintro k τ H5 x H9 hk ⟨v,rfl⟩ s5 ⟨rfl,e1⟩ P1 P2 h1 h2
     obtain⟨T,c,w,rfl,aA,hT⟩:=Yo aw (e1 _ (s5.seq am)) s5
     have:=h1 rfl [some (.ref T)] _ ⟨_,rfl⟩ (Same.refl _)
     rw[Qqv (show(ps.map (·.1))[k]?=some c by rw[jY,aA];rfl)]at this
     exists 4,T,8,hT,at0,this
    have hE:J2 D2=some (.lst ((ps.map (·.1)).map V.int)):=by
     have e7:=Qkz (ps.map (·.1)) fun x=>x
     rw[jQ,List.map_id']at e7
     rw[hE,e7]
    exact N1 _ _ ⟨D2,_,X,rfl,hE,fun z=>(by rw[z,ab]at ap;cases ap),.inl rfl,ar _ _ ab,kJ.trans ar⟩
   .refine N1 _ _ ⟨l9,nm,X,rfl,ad,ai,?_,ab,kJ⟩
    rcases aj with h | ⟨ps,rfl⟩ | h
    .exact .inl h
    .exact Y21 rfl (neStr y)
    .exact .inr h
  clear aj ad ai ab kJ
  rintro ac J ⟨l9,nm,X,rfl,ad,ai,aj,ab,kJ⟩
  refine Qpq (fun ac H'=>∃(l9:Addr) (X:Option V),ac=[some (.ref L),some (.ref D),some (.int ((num:Nat):Int)),some (.ref u),some (.ref l9),X]/\H' l9=some (.lst (ln.names.map V.int))/\l9≠D/\H' D=some (.lst (Qav m i))/\Same H H') ?_ fun N2=>?_
  rotate_left
  .obtain⟨wr,hw⟩:=Qrg (ah.same kJ)
   exists 4,u,8,hw,atW,rfl,4,ite2 (fun y=>?_) (fun y=>?_)
   .obtain⟨o,p,c,rfl⟩:=wd_eit (eqStr y)
    have W:SqT K J u _:=ah.same kJ
    exists 4,u,8,W,at41,4,u,8,W,at42,Z1 2,fun g I=>?_
    have Y:=Qb I (.lst [.int o,.int p])
    exact N2 _ _ ⟨g,X,rfl,upd_same,fun z=>(by rw[z,ab]at I;cases I),Y _ _ ab,kJ.trans Y⟩
   .rcases aj with rfl | ⟨o,p,c,rfl⟩
    .exact N2 _ _ ⟨l9,X,rfl,ad,ai,ab,kJ⟩
    .exact Y21 rfl (neStr y)
  clear aj ad ai ab kJ
  rintro ac J ⟨l9,X,rfl,ad,ne,D9,kJ⟩
  exists 4,4,D,8,Qg D9,Qus ao,4,ite2 (fun y=>?_) (fun y=>?_)
  .have hy:mkd m i ((num:Nat):Int)=true:=y
   let av:Nat->St->Hp->Prop:=fun j σ ag=>∃X:Option V,σ=[some (.ref L),some (.ref D),some (.int ((num:Nat):Int)),some (.ref u),some (.ref l9),X]/\ag D=some (.lst ((List.range m.length).map fun k:Nat=>V.bl (mkd m i (k:Int)||decide ((k:Int)∈ln.names.take j))))/\ag l9=some (.lst (ln.names.map V.int))/\Same H ag
   exists 4,l9,rfl,⟨_,Qg ad⟩,Yq (K:=K) (a:=l9) (xs:=ln.names.map V.int) av ⟨X,rfl,?_,ad,kJ⟩ (fun j σ ag _ h=>?_) ?_ ?_
   .rw[D9]
    refine congrArg (fun f=>some (HO.lst ((List.range m.length).map f))) (funext fun k=>?_)
    rw[List.take_zero,zJ (fun z=>nomatch z),Bool.or_false]
   .obtain⟨_,rfl,_,af,_⟩:=h
    exact Qg af
   .rintro j x σ ag ex ⟨X,rfl,ae,af,aq⟩
    obtain⟨k,ek,rfl⟩:=Xu ex
    obtain⟨k0,k1⟩:=an.2 k (kX ek)
    exists 4,4,D,_,_,k.toNat,rfl,rfl,ae,by rw[show k=((k.toNat:Nat):Int)by lia];exact Qaz (by rw[jQ,xK];lia),?_
    exists 4,?_,by rw[Qn ne];exact af,fun b o e=>?_
    .rw[upd_same,Qre]
     refine congrArg (fun f=>some (HO.lst ((List.range m.length).map f))) (funext fun d=>?_)
     rw[Zw ek]
     by_cases ed:d=k.toNat
     .rw[Y22 ed]
      congr 1
      rw[zX (xW.mpr (.inr (kW.mpr Om))),Bool.or_true]
     .rw[Y20 ed]
      congr 2
      exact decide_eq_decide.mpr ⟨fun z=>xW.mpr (.inl z),fun z=>(xW.mp z).elim id fun z=>Y21 (kW.mp z) Om⟩
    .rw[Qn (Qk e hD)];exact aq _ _ e
   .rintro σ ag ⟨X,rfl,ae,af,aq⟩
    rw[jQ,wV]at ae
    exists _,_,_,4,?_,aq
    rw[ae]
    refine congrArg (fun f=>some (HO.lst ((List.range m.length).map f))) (funext fun k=>?_)
    rw[ak,hy,Bool.true_and]
  .have hy:mkd m i ((num:Nat):Int)=false:=by
    cases e:mkd m i ((num:Nat):Int)with
    |false=>rfl
    |true=>exact Y21 e y
   exists _,_,_,4,?_,kJ
   rw[D9]
   refine congrArg (fun f=>some (HO.lst ((List.range m.length).map f))) (funext fun k=>?_)
   rw[ak,hy,Bool.false_and,Bool.or_false]
 rintro σ Z ⟨v2,v3,v4,X,rfl,B,k8⟩
 rw[Zk]at B
 exists 4,D,rfl,⟨_,Qg B⟩,fun D9 az=>?_
 refine Qfo (n:=m.length) (fun τ=>∃v:Option V,τ=[v]) (fun k=>mkd m m.length (k:Int)) (fun k=>V.bl (mkd m m.length (k:Int))) az Om ⟨none,rfl⟩ (fun k H5 hk s5=>⟨_,_,Qg (s5 _ _ B),by unfold Qav;rw[jY,jYa hk];rfl⟩) (fun H5 s5=>⟨_,Qg (s5 _ _ B),by unfold Qav;rw[jQ,xK];exact jZ _⟩) ?_ (fun H9 s9 hE=>?_)
 .rintro k τ H5 x H9 hk ⟨v,rfl⟩ s5 ⟨rfl,e1⟩ P1 P2 h1 h2
  have ex:=e1 _ (Qg (s5 _ _ B))
  unfold Qav at ex
  rw[jY,jYa hk]at ex
  cases ex
  exists 4,4,ite2 (fun y=>⟨_,rfl,h1 y _ _ ⟨_,rfl⟩ (Same.refl _)⟩) (fun y=>h2 (Bool.eq_false_iff.mpr y) _ _ ⟨_,rfl⟩ (Same.refl _))
 have:=q H9 (k8.trans s9)
 exists D9,4,.inl (Qg hE),?_
 rw[jQ]
 unfold dueL at this
 rw[jQ]at this
 exact this
abbrev Quu:Stmt:=top 44
abbrev Quv:Stmt:=top 45
abbrev Qlj:Stmt:=top 46
abbrev Quw:Stmt:=top 47
abbrev Bits(x:Int):Prop:=PySem.Builtin.Int.intBits x<=2 ^ 20
theorem bits0:Bits 0:=Dc
inductive Qfy(K:Fg)(vs:List V)(H:Hp)(Q:VK)(E:XK):Prop|mk(a:Addr)(ns:List Int)(k:Int)(_:vs=[.ref a,.int k])(_:SqL K H a (ns.map V.int))(_:(∀n∈ns,Bits n))(_:0<=k)(_:∀z:Int,Bits z->Q (.int z) H):Qfy K vs H Q E
inductive Qwb(vs:List V)(H:Hp)(Q:VK)(E:XK):Prop|mk(c k:Int)(_:vs=[.int c,.int k])(_:Bits c)(_:0<=k)(_:k<=1000000)(_:∀z:Int,0<=z->z<2147483587->Q (.int z) H):Qwb vs H Q E
inductive Qrh(K:Fg)(vs:List V)(H:Hp)(Q:VK)(E:XK):Prop|mk(a:Addr)(ns:List Int)(k:Int)(_:vs=[.ref a,.int k])(_:SqL K H a (ns.map V.int))(_:(∀n∈ns,Bits n))(_:0<=k)(_:∀(l:Addr) (x f:Int),H l=none->Bits x->Q (.ref l) (upd H l (.lst [.int x,.int f,.int 0]))):Qrh K vs H Q E
inductive Qwc(vs:List V)(H:Hp)(Q:VK)(E:XK):Prop|mk(l:Addr)(x f k b:Int)(_:vs=[.ref l,.int b])(_:H l=some (.lst [.int x,.int f,.int k]))(_:Bits x)(_:0<=k)(_:k<=100000)(_:0<b)(_:b<=1000000)(_:∀z x':Int,Bits x'->0<=z->z<b->Q (.int z) (upd H l (.lst [.int x',.int f,.int (k+1)]))):Qwc vs H Q E
theorem atNsB{k:Int}(b:∀n∈ns,Bits n)(d:0<=k)(h:k<(((ns.map V.int).length:Nat):Int)):∃v:Int,atI (ns.map V.int) k=some (.int v)/\Bits v:=by
 have a:k.toNat<ns.length:=by rw[jQ]at h;lia
 have c:k=((k.toNat:Nat):Int):=Om
 have q:atI (ns.map V.int) ((k.toNat:Nat):Int)=some (.int ns[k.toNat]):=Zy (by rw[jY,gE a]<;>rfl)
 rw[<-c]at q
 exists _,q,b _ (jXd a)
theorem upd_upd(H:Hp)(l:Addr)(a b:HO):upd (upd H l a) l b=upd H l b:=by
 funext c
 by_cases e:c=l
 .rw[e,upd_same,upd_same]
 .rw[Qn e,Qn e,Qn e]
theorem base3(z:Int):∃b:Int,atI [V.int 3,V.int 5,V.int 9] (z % 3)=some (.int b)/\0<b/\b<=9:=by
 rcases(show z % 3=0\/z % 3=1\/z % 3=2 by lia)with e | e | e
 .rw[e];exists 3,rfl,Dc,Dc
 .rw[e];exists 5,rfl,Dc,Dc
 .rw[e];exists 9,rfl,Dc,Dc
inductive Qde(K:Fg)(vs:List V)(H:Hp)(Q:VK)(E:XK):Prop|mk(a:Addr)(ns:List Int)(most rm:Int)(_:vs=[.ref a,.int most,.int rm])(_:SqL K H a (ns.map V.int))(_:(∀n∈ns,Bits n))(_:0<=most)(_:most<=100)(_:0<=rm)(_:rm<=100)(_:∀(t:Addr) (rs:List (List Int×Int)) (cs:List Int) (H':Hp),Same H H'->ProbAt K H' t rs cs->(∀r∈rs,r.1.length=cs.length)->(cs.length:Int)<=most->(rs.length:Int)<=rm->Q (.ref t) H'):Qde K vs H Q E
theorem scMixB:FnScope ["_law_number","_law_k","_law_mixed"] ["_law_number","_law_k"] (Qf Quu):=Sc
theorem okMixB(F:Fn K mg "_law_mix" Quu)(M:Mg mg):qC 1 "_law_mix" ["_law_number","_law_k"] (Qwb):=by
 refine Xd F scMixB (a:=fun f d A a s H i Q E m h=>?_)
 obtain⟨c,k,rfl,b,l,j,q⟩:=h
 refine⟨_,(Qe (Z4 2 scMixB.nd (Qx Yx (Qx Qab (Qx Yw (Qx Yw (Qx Qab (pv 0) (pv 0)) (Qx Qab (pv 1) (pv 0))) (Qx Qab (Qx Qab Qd (pv 1)) (pv 1))) Qd) Qd))
  (Qh (Qp (Qx Yx (Qx Qab (pv 2) (pv 2)) Qd)))),?_⟩
 have e:∀x:Int,-(2 ^ 64)<x % 2147483629/\x % 2147483629<2 ^ 64:=fun x=>⟨Om,Om⟩
 have g:∀x:Int,PySem.IntMulOk k x:=fun x=>(show CMul k x from .inl ⟨Om,Om⟩).ok
 exists 4,4,7,PySem.IntMulOk.of_bits b b,4,4,7,g _,7,4,7,(show CMul 7 k from .inl ⟨Dc,Dc⟩).ok,4,7,(show CMul (7*k) k from .inr ⟨Om,Om⟩).ok,7,7,(show CMul _ 1103515245 from .inr ⟨Dc,Dc⟩).ok,7,Z0,?_
 exists 4,4,7,(show CMul _ _ from .inl (e _)).ok,7,Z0,q _ (jQa _ Dc) (wJ _ Dc)
theorem scCell:FnScope ["_law_script","_law_k"] ["_law_script","_law_k"] (Qf Quv):=Sc
theorem okCell(F:Fn K mg "_law_cell_at" Quv)(M:Mg mg):qC 1 "_law_cell_at" ["_law_script","_law_k"] (Qfy K):=by
 refine Xd F scCell (a:=fun f e A b s H m Q E n h=>?_)
 obtain⟨a,i,k,rfl,d,g,l,q⟩:=h
 refine⟨_,(Qe (Xe (Qq Qeg (pv 1) (qL (pv 0)) (Qt _)) (Qh (Qp (Qo ix_list (pv 0) (pv 1)))) Qr)
  (Qh (Qp Qd))),?_⟩
 exists 4,4,a,4,.inl d,7,4,?_
 refine ite2 (fun c=>?_) (fun c=>?_)
 .obtain⟨v,hv,j⟩:=atNsB g l (kZ c)
  exists 4,4,a,8,d,hv,q v j
 .exact q 0 bits0
theorem Qxz:FnScope ["_law_script","_law_k"] ["_law_script","_law_k"] (Qf Qlj):=Sc
theorem Qya(F:Fn K mg "_law_left" Qlj)(M:Mg mg)(b:qC 1 "_law_cell_at" ["_law_script","_law_k"] (Qfy K)):qC 2 "_law_left" ["_law_script","_law_k"] (Qrh K):=by
 refine Xd F Qxz (fun _ _ _ _ _ _=>Zn (fun _ _=>rfl)) (fun o H Q E h=>?_) (fun f j A d s H o Q E i h=>?_)
 .obtain⟨a,c,k,rfl,_⟩:=h
  rfl
 obtain⟨a,c,k,rfl,e,g,n,q⟩:=h
 exists _,(Qh (Qp (Xp (Qa (Xc b (i.mono Dc) (Qa (pv 0) (Qa (pv 1) Qc))) (Qa (Qx Yx (Xc b (i.mono Dc) (Qa (pv 0) (Qa Qd Qc))) Qd) (Qa Qd Qc)))))),?_
 exists 4,4,a,c,k,rfl,e,g,n,fun x p=>?_
 exists 4,a,c,0,rfl,e,g,Dc,fun z _=>⟨_,_,rfl,rfl,Z0,Z1 3,fun l m=>q l x _ m p⟩
theorem scDraw:FnScope ["_law_left_here","_law_base","_law_digit"] ["_law_left_here","_law_base"] (Qf Quw):=Sc
theorem okDraw(F:Fn K mg "_law_draw" Quw)(M:Mg mg)(d:qC 1 "_law_mix" ["_law_number","_law_k"] (Qwb)):qC 2 "_law_draw" ["_law_left_here","_law_base"] (Qwc):=by
 refine Xd F scDraw (a:=fun f o A i s H y Q E t h=>?_)
 obtain⟨l,x,g,k,b,rfl,m,j,C,B,e,p,q⟩:=h
 refine⟨_,(Qe (Zo (Qx Yw (Qo ix_list (pv 0) Qd) Qd) (Kg (pv 0) Qd set_list))
  (Qe (Xe (Qq Xz (Qo ix_list (pv 0) Qd) Qd (Qt _)) (Qh (Qp (Qx Yx (Xc d (t.mono Dc) (Qa (Qo ix_list (pv 0) Qd) (Qa (Qo ix_list (pv 0) Qd) Qc))) (pv 1)))) Qr)
  (Qe (Z4 2 scDraw.nd (Qx Yx (Qo ix_list (pv 0) Qd) (pv 1)))
  (Qe (Zo (Qx We (Qo ix_list (pv 0) Qd) (pv 1)) (Kg (pv 0) Qd set_list))
  (Qh (Qp (pv 2))))))),?_⟩
 refine Wj ?_;intros
 exists 4,l,8,Qg m,rfl,7,4,l,_,_,2,rfl,rfl,m,rfl,?_
 have a:upd H l (.lst [.int x,.int g,.int (k+1)]) l=some (.lst [.int x,.int g,.int (k+1)]):=upd_same
 exists 4,l,8,Qg a,rfl,rfl,4,ite2 (fun c=>?_) (fun c=>?_)
 .refine⟨_,rfl,l,_,_,_,rfl,rfl,Qg a,rfl,_,rfl,l,_,_,_,rfl,rfl,Qg a,rfl,x,k+1,rfl,j,Om,Om,fun z _ _=>⟨_,rfl,_,_,rfl,rfl,e,q _ _ j (jQa _ Om) (wJ _ e)⟩⟩
 .refine⟨_,rfl,l,_,_,_,rfl,rfl,Qg a,rfl,_,rfl,_,_,rfl,rfl,e,?_⟩
  exists 4,l,8,Qg a,rfl,4,7,big1 e p,4,l,_,_,0,rfl,rfl,a,rfl,?_
  have:=q (x % b) (x.fdiv b) (PyProof.Rows.bits_fdiv j) (jQa _ Om) (wJ _ e)
  rw[<-upd_upd H l (.lst [.int x,.int g,.int (k+1)])]at this
  exists 4,this
abbrev Vh:Stmt:=top 48
theorem scProblem20:FnScope ["_law_script","_law_most_here","_law_rows_most","_law_cell","_law_many","_law_base","_law_rows","_law_k","_law_left_here","_law_numbers"] ["_law_script","_law_most_here","_law_rows_most"] (Qf Vh):=Sc
theorem Qjn(F:Fn K mg "_law_problem" Vh)(M:Mg mg)(J:qC 1 "_law_cell_at" ["_law_script","_law_k"] (Qfy K))(I:qC 2 "_law_left" ["_law_script","_law_k"] (Qrh K))(u:qC 2 "_law_draw" ["_law_left_here","_law_base"] (Qwc)):qC 3 "_law_problem" ["_law_script","_law_most_here","_law_rows_most"] (Qde K):=by
 refine Xd F scProblem20 (a:=fun f an A aj s H vs Q E hr h=>?_)
 obtain⟨a,ns,d,rm,rfl,hS,hB,m0,m1,r0,r1,q⟩:=h
 refine⟨_,(Qe (Z4 3 scProblem20.nd (Qx Jv (Xc J (hr.mono Dc) (Qa (pv 0) (Qa Qd Qc))) Qd))
  (Qe (Z4 4 scProblem20.nd (Qx Yx (pv 3) (Qx Yw (pv 1) Qd)))
  (Qe (Z4 5 scProblem20.nd (Qo ix_list (Xp (Qa Qd (Qa Qd (Qa Qd Qc)))) (Qx Yx (Qx Jv (pv 3) Qd) Qd)))
  (Qe (Z4 6 scProblem20.nd (Xp Qc))
  (Qe (Xy PassesOwn.never rfl (Yi rfl M.range_ (Qa (Qx Yx (Qx Jv (pv 3) Qd) (Qx Yw (pv 2) Qd)) Qc)) (Z3 7 scProblem20.nd) (Qe (Z4 8 scProblem20.nd (Xc I (hr.mono Dc) (Qa (pv 0) (Qa (Qx Yw Qd (pv 7)) Qc))))
  (Qe (Z4 9 scProblem20.nd (Qz Xb rfl M.tuple_ Xo (Qa (Zv ["_law_i","_law_base","_law_left_here"] [none,some 5,some 8] rfl (Yi rfl M.range_ (Qa (pv 4) Qc)) (fun _ _ _=>(Z3 0 (show(["_law_i","_law_base","_law_left_here"]:List Str).Nodup by decide +kernel))) (fun _ _ _=>Yf) (fun _ _ _=>(Qx Yr (Xc u (hr.mono Dc) (Qa (pv 2) (Qa (pv 1) Qc))) (Qx Jv (pv 1) Qd)))) Qc)))
  (Qh (Zj (Wz Y1 Y2 Y3 Ye (pv 6) (Qa (Xh (Qa (pv 9) (Qa (Qx Yw (Qx Yr (Xc u (hr.mono Dc) (Qa (pv 8) (Qa (Qx Qap Qd (pv 5)) Qc))) (pv 5)) Qd) Qc))) Qc)))))))
  (Qe (Z4 8 scProblem20.nd (Xc I (hr.mono Dc) (Qa (pv 0) (Qa Qd Qc))))
  (Qh (Qp (Xh (Qa (pv 6) (Qa (Qz Xb rfl M.tuple_ Xo (Qa (Zv ["_law_i","_law_base","_law_left_here"] [none,some 5,some 8] rfl (Yi rfl M.range_ (Qa (pv 4) Qc)) (fun _ _ _=>(Z3 0 (show(["_law_i","_law_base","_law_left_here"]:List Str).Nodup by decide +kernel))) (fun _ _ _=>Yf) (fun _ _ _=>(Qx Yr (Xc u (hr.mono Dc) (Qa (pv 2) (Qa (pv 1) Qc))) (Qx Jv (pv 1) Qd)))) Qc)) Qc))))))))))),?_⟩
 refine Qew ?_;intros
 exists"z"
 exists 4,a,ns,0,rfl,hS,hB,Dc,fun C _=>⟨_,_,rfl,rfl,⟨Dc,Dc⟩,?_⟩
 exists 4,4,7,7,by show 0<d+1;lia,?_
 have n0:=jQa (C / 2) (show d+1≠0 by lia)
 have n1:=wJ (C / 2) (show 0<d+1 by lia)
 exists Z1 3,fun p hp=>?_
 obtain⟨b,hb,b0,b1⟩:=base3 ((C / 2) / 100)
 exists 4,7,⟨Dc,Dc⟩,7,Z0,p,8,Qg upd_same,hb,?_
 exists Z1 0,fun g fg=>?_
 have s1:Same H (upd (upd H p (.lst [.int 3,.int 5,.int 9])) g (.lst [])):=(Qb hp _).trans (Qb fg _)
 have gH:H g=none:=by
  cases e5:H g with
  |none=>rfl
  |some o=>rw[Qb hp (.lst [.int 3,.int 5,.int 9]) _ _ e5]at fg;cases fg
 have c0:=jQa ((C / 2) / 10) (show rm+1≠0 by lia)
 have c1:=wJ ((C / 2) / 10) (show 0<rm+1 by lia)
 exists 4,7,⟨Dc,Dc⟩,4,7,7,by show 0<rm+1;lia,?_
 let af:Nat->St->Hp->Prop:=fun i σ T=>∃(rs:List (List Int×Int)) (vs:List V) (u1 u2 u3:Option V),σ=[some (.ref a),some (.int d),some (.int rm),some (.int (C / 2)),some (.int ((C / 2) % (d+1))),some (.int b),some (.ref g),u1,u2,u3]/\T g=some (.lst vs)/\RowsAre K T vs rs/\(∀r∈rs,(r.1.length:Int)=(C / 2) % (d+1))/\rs.length=i/\Same H T
 refine⟨((C / 2) / 10 % (rm+1)),rfl,Om,Om,Jf (lo:=0) (n:=((C / 2) / 10 % (rm+1)).toNat) af
  ⟨[],[],none,none,none,rfl,upd_same,.nil,(fun r hr=>nomatch hr),rfl,s1⟩ ?_ ?_⟩
 .rintro i σ T hi ⟨rs,vs,u1,u2,u3,rfl,hg,W,aa,rfl,s2⟩
  have lv:=W.length
  exists 4,4,7,a,ns,4,s2.seq hS,hB,Om,fun l x f fl hx=>?_
  have ap:g≠l:=Qk hg fl
  exists 4,(C / 2) % (d+1),rfl,Om,Om,fun D R=>?_
  have nD:D≠l:=fun w=>by rw[w,upd_same]at R;cases R
  let ae:Nat->St->List V->Hp->Prop:=fun j S N m=>∃(v:Option V) (k:List Int) (x:Int),S=[v,some (.int b),some (.ref l)]/\N=k.map V.int/\k.length=j/\m D=some (.lst N)/\m l=some (.lst [.int x,.int f,.int (j:Int)])/\Bits x/\∀c o,T c=some o->m c=some o
  refine Ys (n:=((C / 2) % (d+1)).toNat) ae
   ?_ (fun j S N m hj h=>?_) (fun j S N m hj h=>hj) (fun S N m h=>jZ _) ?_ ?_
  .exact⟨none,[],x,rfl,rfl,rfl,upd_same,by rw[Qn (Ne.symm nD)];exact upd_same,hx,fun c o e=>by rw[Qn (fun w=>by rw[w]at e;rw[Qn (Qk e fl)]at R;rw[R]at e;cases e),Qn (Qk e fl)];exact e⟩
  .obtain⟨v,k,x,rfl,rfl,rfl,B,G,L,U⟩:=h
   exists B,by rw[jQ];lia
  .rintro j S N m y H6 hj ⟨v,k,x,rfl,rfl,rfl,B,G,L,U⟩ ⟨rfl,rfl⟩
   exists 4,4,l,x,f,_,b,rfl,G,L,Om,Om,b0,Om,fun C x' Y z0 z1=>⟨_,rfl,_,_,rfl,rfl,⟨Dc,Dc⟩,_,_,rfl,rfl,by rw[Qn nD];exact B,_,k++[_],x',rfl,by rw[kK];rfl,by rw[yQ];rfl,upd_same,by rw[Qn (Ne.symm nD),upd_same];rfl,Y,fun c o e=>?_⟩
   have c1:c≠l:=Qk e fl
   have c2:c≠D:=fun w=>by rw[w]at e;rw[Qn nD]at R;rw[R]at e;cases e
   rw[Qn c2,Qn c1]
   exact U c o e
  .rintro S N m ⟨v,k,x,rfl,rfl,ak,B,G,L,U⟩
   exists D,4,.inl ⟨Qg B,fun O X=>?_⟩
   have Z:∀c o,T c=some o->upd m O (.tup (k.map V.int)) c=some o:=fun c o e=>by rw[Qn (Qk (U c o e) X)];exact U c o e
   have ad:upd m O (.tup (k.map V.int)) l=some (.lst [.int x,.int f,.int (((C / 2) % (d+1)).toNat:Nat)]):=by rw[Qn (Qk G X)];exact G
   have ah:SqT K (upd m O (.tup (k.map V.int))) O (k.map V.int):=Ql upd_same
   generalize upd m O (.tup (k.map V.int))=H6 at Z ad ah⊢
   have s6:Same T H6:=Z
   exists 4,.inl ⟨rfl,_,Qg (s6 _ _ hg)⟩,4,4,4,7,.inl ⟨Dc,Dc⟩,l,x,f,_,2*b,rfl,ad,L,Om,Om,Om,Om,fun y x' Y _ _=>?_
   have ag:SqT K (upd H6 l (.lst [.int x',.int f,.int ((((C / 2) % (d+1)).toNat:Nat)+1)])) O (k.map V.int):=Yk ad ah
   have s7:Same T (upd H6 l (.lst [.int x',.int f,.int ((((C / 2) % (d+1)).toNat:Nat)+1)])):=fun c o e=>by rw[Qn (Qk e fl)];exact s6 _ _ e
   generalize upd H6 l (.lst [.int x',.int f,.int ((((C / 2) % (d+1)).toNat:Nat)+1)])=H7 at ag s7⊢
   exists 4,7,7,Z1 2,fun t ft=>?_
   have s8:=Qb ft (.tup [.ref O,.int (y-b+1)])
   have ac:=s8 _ _ (s7 _ _ hg)
   exists g,7,ac,Om,rs++[(k,y-b+1)],_,_,_,4,upd_same,?_,fun r ab=>?_,by rw[yQ];rfl,fun c o e=>?_
   .exact RowsAre.snoc (W.imp fun _ _ w=>((w.same s7).same s8).upd ac) (RowAt.upd ac ⟨O,Ql upd_same,s8.tup ag⟩)
   .rcases xW.mp ab with w | w
    .exact aa r w
    .rw[kW.mp w];show(k.length:Int)=_;lia
   .rw[Qn (Qk e gH)];exact s8 _ _ (s7 _ _ (s2 _ _ e))
 .rintro σ T ⟨rs,vs,u1,u2,u3,rfl,hg,W,aa,au,s2⟩
  exists 4,a,ns,4,s2.seq hS,hB,Dc,fun l x f fl hx=>?_
  exists 4,?_
  exists 4,(C / 2) % (d+1),rfl,Om,Om,fun D R=>?_
  have nD:D≠l:=fun w=>by rw[w,upd_same]at R;cases R
  let ai:Nat->St->List V->Hp->Prop:=fun j S N m=>∃(v:Option V) (k:List Int) (x:Int),S=[v,some (.int b),some (.ref l)]/\N=k.map V.int/\k.length=j/\m D=some (.lst N)/\m l=some (.lst [.int x,.int f,.int (j:Int)])/\Bits x/\∀c o,T c=some o->m c=some o
  refine Ys (n:=((C / 2) % (d+1)).toNat) ai
   ?_ (fun j S N m hj h=>?_) (fun j S N m hj h=>hj) (fun S N m h=>jZ _) ?_ ?_
  .exact⟨none,[],x,rfl,rfl,rfl,upd_same,by rw[Qn (Ne.symm nD)];exact upd_same,hx,fun c o e=>by rw[Qn (fun w=>by rw[w]at e;rw[Qn (Qk e fl)]at R;rw[R]at e;cases e),Qn (Qk e fl)];exact e⟩
  .obtain⟨v,k,x,rfl,rfl,rfl,B,G,L,U⟩:=h
   exists B,by rw[jQ];lia
  .rintro j S N m y H6 hj ⟨v,k,x,rfl,rfl,rfl,B,G,L,U⟩ ⟨rfl,rfl⟩
   exists 4,4,l,x,f,_,b,rfl,G,L,Om,Om,b0,Om,fun C x' Y z0 z1=>⟨_,rfl,_,_,rfl,rfl,⟨Dc,Dc⟩,_,_,rfl,rfl,by rw[Qn nD];exact B,_,k++[_],x',rfl,by rw[kK];rfl,by rw[yQ];rfl,upd_same,by rw[Qn (Ne.symm nD),upd_same];rfl,Y,fun c o e=>?_⟩
   have c1:c≠l:=Qk e fl
   have c2:c≠D:=fun w=>by rw[w]at e;rw[Qn nD]at R;rw[R]at e;cases e
   rw[Qn c2,Qn c1]
   exact U c o e
  .rintro S N m ⟨v,k,x,rfl,rfl,ak,B,G,L,U⟩
   exists D,4,.inl ⟨Qg B,fun O X=>?_⟩
   have Z:∀c o,T c=some o->upd m O (.tup (k.map V.int)) c=some o:=fun c o e=>by rw[Qn (Qk (U c o e) X)];exact U c o e
   exists Z1 2,fun t ft=>?_
   have s6:Same T (upd m O (.tup (k.map V.int))):=Z
   have s7:=Qb ft (.tup [.ref g,.ref O])
   exact q t rs k _ ((s2.trans s6).trans s7) ⟨g,O,vs,Ql upd_same,Qg (s7 _ _ (s6 _ _ hg)),W.imp fun _ _ w=>(w.same s6).same s7,s7.tup (Ql upd_same)⟩ (fun r ab=>by have:=aa r ab;lia) Om Om
end Nb
namespace L2
open PySem PySem.Spec PyProof.Rows PySem.SeqAt
inductive SmD (K:Fg) (H:Hp):Nat->V->V->Prop
 |flat {n v:_}:Qay v=true->SmD K H n v v
 |tup {n a b xs ys:_}:SqT K H a xs->SqT K H b ys->xs.length=ys.length->(∀(i:Nat) x y,xs[i]?=some x->ys[i]?=some y->SmD K H n x y)->SmD K H (n+1) (.ref a) (.ref b)
 |lst {n a b xs ys:_}:SqL K H a xs->SqL K H b ys->xs.length=ys.length->(∀(i:Nat) x y,xs[i]?=some x->ys[i]?=some y->SmD K H n x y)->SmD K H (n+1) (.ref a) (.ref b)
theorem Qyb{x:V}(h:SmD X.K H n x y):∀{A:Around} {u v:Value},A.units+n<cLine->qI H s->RelV x u->RelV y v ->
  EqAt A s u v true/\(∀a c,u=.ref a->v=.ref c->RcAt A s u v true/\RcNeAt A s u v false):=by
 induction h with
 |@flat n x hf=>
  intro A u v W I o L
  have:=Qvj (A:=A) (s:=s) o L hf hf
  rw[Qtz hf]at this
  exists this,fun a c e _=>?_
  subst e
  cases x with
  |non=>cases o
  |bl b=>cases o
  |int i=>obtain⟨_,h⟩:=o;cases h
  |str z=>obtain⟨_,h⟩:=o;cases h
  |_=>exact nomatch hf
 |@tup m p q xs ys hq hq' hl hs ih=>
  intro A u v W I o L
  cases o
  cases L
  obtain⟨f,r,pt,_⟩:=I.tuple hq
  obtain⟨d,D,g,_⟩:=I.tuple hq'
  have Z:=r.length
  have Y:=D.length
  have k:∀j (E:j<f.toArray.size) (O:j<d.toArray.size),EqAt A.in1 s f.toArray[j] d.toArray[j] ((fun _=>true) j):=fun j E O=>by
   rw[kQ]at E O
   have F:j<xs.length:=Om
   have G:j<ys.length:=Om
   obtain⟨P,J,B⟩:=r.get (gE F)
   obtain⟨S,M,t⟩:=D.get (gE G)
   have U:=(ih j _ _ (gE F) (gE G) (A:=A.in1) (by show A.units+1+m<cLine;lia) I B t).1
   have T:f.toArray[j]=P:=by rw[gE Om]at J;simpa using J
   have Q:d.toArray[j]=S:=by rw[gE Om]at M;simpa using M
   rw[T,Q]
   exact U
  have R:((List.range (min f.toArray.size d.toArray.size)).all (fun _=>true)&&f.toArray.size == d.toArray.size)=true:=by
   rw[xV,Vz,kQ,kQ,beq_iff_eq]
   exists fun _ _=>rfl,Om
  have w:=RcAt.tuples pt g Om k
  have N:=RcNeAt.tuples pt g Om k
  rw[R]at w N
  exists ?_,fun a c _ _=>⟨w,N⟩
  by_cases l:p=q
  .subst l
   exact EqAt.same _
  .exact EqAt.of_refs l w
 |@lst m p q xs ys hq hq' hl hs ih=>
  intro A u v W I o L
  cases o
  cases L
  obtain⟨f,r,pt,_⟩:=I.list hq
  obtain⟨d,D,g,_⟩:=I.list hq'
  have Z:=r.length
  have Y:=D.length
  have k:∀j (E:j<f.toArray.size) (O:j<d.toArray.size),EqAt A.in1 s f.toArray[j] d.toArray[j] ((fun _=>true) j):=fun j E O=>by
   rw[kQ]at E O
   have F:j<xs.length:=Om
   have G:j<ys.length:=Om
   obtain⟨P,J,B⟩:=r.get (gE F)
   obtain⟨S,M,t⟩:=D.get (gE G)
   have U:=(ih j _ _ (gE F) (gE G) (A:=A.in1) (by show A.units+1+m<cLine;lia) I B t).1
   have T:f.toArray[j]=P:=by rw[gE Om]at J;simpa using J
   have Q:d.toArray[j]=S:=by rw[gE Om]at M;simpa using M
   rw[T,Q]
   exact U
  have C:f.toArray.size=d.toArray.size:=by rw[kQ,kQ];lia
  have R:((List.range f.toArray.size).all (fun _=>true))=true:=by
   rw[Vz]
   exact fun _ _=>rfl
  have w:=RcAt.lists pt.isList g.isList C Om k
  have N:=RcNeAt.lists pt.isList g.isList C Om k
  rw[R]at w N
  exists ?_,fun a c _ _=>⟨w,N⟩
  by_cases l:p=q
  .subst l
   exact EqAt.same _
  .exact EqAt.of_refs l w
theorem Qjo(f:X.A.units+n<cLine):OpR X (compareOp .NotEq) (fun x y H Q=>∃a b,x=.ref a/\y=.ref b/\SmD X.K H n x y/\Q (.bl false) H):=by
 intro c s i H x y v u Q I d g h
 obtain⟨a,b,rfl,rfl,e,q⟩:=h
 cases d
 cases g
 exact((Qyb e (A:=X.A) (u:=.ref a) (v:=.ref b) f I rfl rfl).2 a b rfl rfl).2 _ _ _ _ ⟨.bl false,H,I,rfl,q⟩
def RSo(d:Addr)(n:Nat):HO:=.ext fun h=>∃o es ep t,h.get? d=some o/\o.ExactSet/\o.data=.set es ep t/\es.size=n/\t.fits es.size=true/\es.size<4096
theorem Qfz:Jb X (.builtin "len") (fun xs H Q=>∃(d:Addr) (n:Nat),xs=[.ref d]/\H d=some (RSo d n)/\Q (.int (n:Nat)) H):=by
 intro c s m H xs r Q I g h
 obtain⟨d,n,rfl,f,q⟩:=h
 obtain⟨u,rfl,j⟩:=g.one
 cases j
 obtain⟨⟨o,l,v,t,k,b,a,i,e,p⟩,_⟩:=(show ObjOk X.prog X.w H s.heap d (RSo d n)from I.hok d _ f)
 subst i
 exact call_len_set k b a e Om ⟨.int _,H,I.tok _,⟨_,rfl⟩,q⟩
def Qri:Prop:=∀{X:Cx},X.calm=true->X.A.units+6<cLine->Jb X (.type "set") (fun xs H Q=>∃(l:Addr) (ws:List V) (rs:List Rw2),xs=[.ref l]/\SqL X.K H l ws/\Nb.RowsAre X.K H ws rs/\rs.Nodup/\rs.length<=2000/\∀d:Addr,H d=none->Q (.ref d) (upd H d (RSo d rs.length)))
end L2
namespace Nb
open PySem L2
inductive Qlk(K:Fg)(vs:List V)(H:Hp)(Q:VK)(E:XK):Prop|mk(a:Addr)(ns:List Int)(_:vs=[.ref a])(_:SqL K H a (ns.map V.int))(_:ns.length<=63)(_:(∀n∈ns,Bits n))(_:∀H',Q (.bl true) H'):Qlk K vs H Q E
theorem pe_fn0{k:Nat}{ps:List Str}{p:Pos}(C:Cal X.prog X.w X.K X.mg X.base k x ps sp)(e:Room k X.A)(c:qb (Gl X x))(a:qc ((x == ("__debug__":Str))=false)):PE X (.Call (.Name x p) [] [] pos) (Qnm sp [] E0 tNil):=by
 obtain⟨f,g,F,m,d,b⟩:=C.ex
 exact Qsg F e c m d b .nil Qwn a
theorem Qux(ns:List Int)(lo a:Option Int):∃zs:List Int,cutV (ns.map V.int) lo a=zs.map V.int/\zs.length<=ns.length:=by
 unfold cutV
 rw[jQ]
 exists (ns.drop (HT.sIx ns.length 0 lo)).take (HT.sIx ns.length ns.length a-HT.sIx ns.length 0 lo),by rw[yQe,yQf],by rw[yY,jJc];lia
theorem Quy(us:List V)(a:Option Int):∃m,cutV us none a=us.take m:=⟨_,by unfold cutV;rw[HT.sIx_none,yYf]⟩
theorem two_of{v x:V}{z:Int}(h:0<=z)(a:z<2):atI [x,y] z=some x\/atI [x,y] z=some y:=by
 rcases(show z=0\/z=1 by lia)with e | e
 .rw[e];exact .inl rfl
 .rw[e];exact .inr rfl
theorem Qwd{x y:Addr}{r:Rw}(h:RowAt K H x r)(g:RowAt K H y r):SmD K H (n+2) (.ref x) (.ref y):=by
 obtain⟨p,a,b⟩:=h
 obtain⟨o,k,l⟩:=g
 refine .tup a k rfl fun i v m e d=>?_
 rcases i with _ | _ | i
 .cases e;cases d
  refine .tup b l rfl fun j x y f c=>?_
  rw[f]at c;cases c
  obtain⟨z,_,rfl⟩:=Xu f
  exact .flat rfl
 .cases e;cases d;exact .flat rfl
 .exact nomatch e
theorem Qrj{v':V}(e:(ns.map V.int)[i]?=some v)(a:(ns.map V.int)[i]?=some v'):SmD K H n v v':=by
 rw[e]at a;cases a
 obtain⟨z,_,rfl⟩:=Xu e
 exact .flat rfl
theorem Qll{l':Addr}(h:HoldsAt K H l hs)(g:HoldsAt K H l' hs):SmD K H (n+2) (.ref l) (.ref l'):=by
 obtain⟨A,a,b⟩:=h
 obtain⟨t,r,o⟩:=g
 refine .lst a r (by rw[b.length,o.length]) fun i x y e p=>?_
 obtain⟨T,c,w,rfl,q,s⟩:=Yo b e (Same.refl _)
 obtain⟨v,u,z,rfl,d,f⟩:=Yo o p (Same.refl _)
 rw[q]at d;cases d
 refine .tup s f rfl fun j x y k m=>?_
 rcases j with _ | _ | j
 .cases k;cases m;exact .flat rfl
 .cases k;cases m;exact .flat rfl
 .exact nomatch k
theorem Vi{u u':Addr}(h:SqT K H u xs)(g:SqT K H u' xs)(f:∀x∈xs,Qay x=true):SmD K H (n+1) (.ref u) (.ref u') :=
 .tup h g rfl fun i x y e a=>by rw[e]at a;cases a;exact .flat (f x (kX e))
theorem Qyc{u u':Addr}(h:DLAt K H u ln)(g:DLAt K H u' ln):SmD K H (n+3) (.ref u) (.ref u'):=by
 cases ln with
 |giv k=>exact Vi h g fun x d=>by simp at d;rcases d with rfl | rfl<;>rfl
 |low k=>exact Vi h g fun x d=>by simp at d;rcases d with rfl | rfl<;>rfl
 |high k=>exact Vi h g fun x d=>by simp at d;rcases d with rfl | rfl<;>rfl
 |bet=>exact Vi h g fun x d=>by simp at d;rcases d with rfl;rfl
 |shr o b=>exact Vi h g fun x d=>by simp at d;rcases d with rfl | rfl | rfl<;>rfl
 |eit o p c=>exact Vi h g fun x d=>by simp at d;rcases d with rfl | rfl | rfl | rfl<;>rfl
 |sm ps=>
  obtain⟨l,a,b⟩:=h
  obtain⟨r,m,q⟩:=g
  refine .tup a m rfl fun i x y e f=>?_
  rcases i with _ | _ | i
  .cases e;cases f;exact .flat rfl
  .cases e;cases f;exact Qll b q
  .exact nomatch e
 |sht o hs=>
  obtain⟨l,a,b⟩:=h
  obtain⟨r,m,q⟩:=g
  refine .tup a m rfl fun i x y e f=>?_
  rcases i with _ | _ | _ | i
  .cases e;cases f;exact .flat rfl
  .cases e;cases f;exact .flat rfl
  .cases e;cases f;exact Qll b q
  .exact nomatch e
 |lik t=>
  obtain⟨l,a,b⟩:=h
  obtain⟨r,m,q⟩:=g
  refine .tup a m rfl fun i x y e f=>?_
  rcases i with _ | _ | i
  .cases e;cases f;exact .flat rfl
  .cases e;cases f;exact .lst b q rfl fun j x y v s=>Qrj v s
  .exact nomatch e
theorem Qga{g':Addr}{us us':List V}(a:SqL K H g us)(j:SqL K H g' us')(h:LinesAt K H us lns)(h':LinesAt K H us' lns):SmD K H (n+4) (.ref g) (.ref g'):=by
 refine .lst a j (by rw[Paired.length h,Paired.length h']) fun i x y e d=>?_
 obtain⟨l,k,u,rfl,z⟩:=L2.Xx h e
 obtain⟨c,b,m,rfl,f⟩:=L2.Xx h' d
 rw[k]at b;cases b
 exact Qyc z f
theorem Qrk{T t l' c:Addr}(h:SqT K H T [.ref l,.ref c])(g:SqT K H t [.ref l',.ref c])(a:SqL K H l vs)(o:SqL K H l' vs)(r:RowsAre K H vs rs)(k:SqT K H c (cs.map V.int)):SmD K H (n+4) (.ref T) (.ref t):=by
 refine .tup h g rfl fun i x y e f=>?_
 rcases i with _ | _ | i
 .cases e;cases f
  refine .lst a o rfl fun j x y d b=>?_
  rw[d]at b;cases b
  obtain⟨p,q,rfl,_,m⟩:=r.get d
  exact Qwd m m
 .cases e;cases f;exact .tup k k rfl fun j x y d b=>Qrj d b
 .exact nomatch e
def PX(H0 H:Hp)(g:Addr)(B:Nat)(x:V):Prop:=(∃n,x=.int n)\/(∃s,x=.str s)\/∃l ys,x=.ref l/\H0 l=none/\l≠g/\H l=some (.lst ys)/\ys.length<=B
def LnM(K:Fg)(H0 H:Hp)(g:Addr)(B:Nat)(v:V):Prop:=∃(u:Addr) (xs:List V),v=.ref u/\SqT K H u xs/\xs.length<=4/\∀x∈xs,PX H0 H g B x
theorem PX.upd{x:V}(h:PX H0 H g B x)(k:H l=some (.lst ys))(hz:zs.length<=B+1):PX H0 (L2.upd H l (.lst zs)) g (B+1) x:=by
 rcases h with h | h | ⟨a,b,f,e,c,i,j⟩
 .exact .inl h
 .exact .inr (.inl h)
 .by_cases d:a=l
  .subst d;exact .inr (.inr ⟨a,zs,f,e,c,upd_same,hz⟩)
  .exact .inr (.inr ⟨a,b,f,e,c,by rw[Qn d];exact i,Om⟩)
theorem PX.mono{x:V}(h:PX H0 H g B x)(j:B<=B'):PX H0 H g B' x:=by
 rcases h with h | h | ⟨c,a,f,d,b,e,i⟩
 .exact .inl h
 .exact .inr (.inl h)
 .exact .inr (.inr ⟨c,a,f,d,b,e,Om⟩)
theorem PX.same{x:V}(h:PX H0 H g B x)(s:Same H H'):PX H0 H' g B x:=by
 rcases h with h | h | ⟨d,a,i,e,b,f,c⟩
 .exact .inl h
 .exact .inr (.inl h)
 .exact .inr (.inr ⟨d,a,i,e,b,s _ _ f,c⟩)
theorem LnM.upd(h:LnM K H0 H g B v)(d:H l=some (.lst ys))(hz:zs.length<=B+1):LnM K H0 (L2.upd H l (.lst zs)) g (B+1) v:=by
 obtain⟨u,f,e,a,b,c⟩:=h;exists u,f,e,Yk d a,b,fun x i=>(c x i).upd d hz
theorem LnM.mono(h:LnM K H0 H g B v)(d:B<=B'):LnM K H0 H g B' v:=by
 obtain⟨u,f,e,a,b,c⟩:=h;exists u,f,e,a,b,fun x i=>(c x i).mono d
theorem LnM.same(h:LnM K H0 H g B v)(s:Same H H'):LnM K H0 H' g B v:=by
 obtain⟨u,d,e,a,b,c⟩:=h;exists u,d,e,s.tup a,b,fun x f=>(c x f).same s
theorem lnM_of{u:Addr}(s:H1 g≠none)(v:n<=20)(q:∀l,H1 l=none->H l=none)(h:DLN K H1 H' u ln)(o:DLok n ln):LnM K H H' g 100 (.ref u):=by
 have ne:∀l,H1 l=none->l≠g:=fun l e z=>s (by rw[<-z];exact e)
 cases ln with
 |sm ps=>
  obtain⟨l,r,d,i,f,j⟩:=h
  have m:=j.length
  rw[jQ]at m
  have:=o.1
  exists u,4,i,by show 2<=4;decide,fun x a=>?_
  simp at a
  rcases a with rfl | rfl
  .exact .inr (.inl ⟨_,rfl⟩)
  .exact .inr (.inr ⟨l,r,rfl,q l d,ne l d,f,Om⟩)
 |sht o' hs=>
  obtain⟨l,r,d,i,f,j⟩:=h
  have m:=j.length
  rw[jQ]at m
  have:=Qbl o.2
  exists u,4,i,by show 3<=4;decide,fun x a=>?_
  simp at a
  rcases a with rfl | rfl | rfl
  .exact .inr (.inl ⟨_,rfl⟩)
  .exact .inl ⟨_,rfl⟩
  .exact .inr (.inr ⟨l,r,rfl,q l d,ne l d,f,Om⟩)
 |lik t=>
  obtain⟨l,d,i,f⟩:=h
  have:=IsTurn.length o
  exists u,4,i,by show 2<=4;decide,fun x a=>?_
  simp at a
  rcases a with rfl | rfl
  .exact .inr (.inl ⟨_,rfl⟩)
  .exact .inr (.inr ⟨l,_,rfl,q l d,ne l d,f,by rw[jQ,Vn];lia⟩)
 |giv k=>exists u,4,h,by show 2<=4;decide,fun x a=>by simp at a;rcases a with rfl | rfl<;>first | exact .inl ⟨_,rfl⟩ | exact .inr (.inl ⟨_,rfl⟩)
 |low k=>exists u,4,h,by show 2<=4;decide,fun x a=>by simp at a;rcases a with rfl | rfl<;>first | exact .inl ⟨_,rfl⟩ | exact .inr (.inl ⟨_,rfl⟩)
 |high k=>exists u,4,h,by show 2<=4;decide,fun x a=>by simp at a;rcases a with rfl | rfl<;>first | exact .inl ⟨_,rfl⟩ | exact .inr (.inl ⟨_,rfl⟩)
 |bet=>exists u,4,h,by show 1<=4;decide,fun x a=>by simp at a;rcases a with rfl;exact .inr (.inl ⟨_,rfl⟩)
 |shr o' b=>exists u,4,h,by show 3<=4;decide,fun x a=>by simp at a;rcases a with rfl | rfl | rfl<;>first | exact .inl ⟨_,rfl⟩ | exact .inr (.inl ⟨_,rfl⟩)
 |eit o' p c=>exists u,4,h,by show 4<=4;decide,fun x a=>by simp at a;rcases a with rfl | rfl | rfl | rfl<;>first | exact .inl ⟨_,rfl⟩ | exact .inr (.inl ⟨_,rfl⟩)
abbrev sLaw:Stmt:=top 67
theorem scLaw:FnScope ["_law_script","_law_problem_here","_law_best","_law_paper_here","_law_handed","_law_turn_here","_law_found","_law_heard","_law_line","_law_part","_law_fresh"] ["_law_script"] (Qf sLaw):=Sc
theorem okLaw(F:Fun K "law" "law" sLaw f fd)(M:Mg mg)(SR:Qri)(Y:qC 3 "_law_problem" ["_law_script","_law_most_here","_law_rows_most"] (Qde K))(p:qC 1 "_law_cell_at" ["_law_script","_law_k"] (Qfy K))(R:qC 4 "_law_paper" ["_law_problem_here","_law_best","_law_cells"] (Qrd K))(aF:qC 1 "_law_long" [] (Qvy K))(ay:qC 1 "_law_copy" ["_law_problem_here"] (Qwa K))(S:qC 4 "_law_told" ["_law_problem_here","_law_best","_law_paper_here"] (Qvz K))(N:qC 1 "_law_rests" ["_law_paper_here"] (Qli K))(ag:qC 8 "shorter" ["problem","best","paper"] (Qrb K)):FnOk P w K mg base CX0 9 f fd ["_law_script"] (Qlk K):=by
 refine F.ok scLaw (a:=fun cF A cr s H vs Q E hr h=>?_)
 obtain⟨a,ns,rfl,hS,cH,hB,q⟩:=h
 have aP:=Z6 6 hr.un
 have hu:=Z6 1 hr.un
 refine⟨_,(Qe (Z4 1 scLaw.nd (Xc Y (hr.mono Dc) (Qa (pv 0) (Qa Qd (Qa Qd Qc)))))
  (Qe (Z4 2 scLaw.nd (Qo ix_list (Xp (Qa Xk (Qa (Qx Yr (Qx Yx (Qx Jv (Xc p (hr.mono Dc) (Qa (pv 0) (Qa Qd Qc))) Qd) Qd) Qd) Qc))) (Qx Yx (Xc p (hr.mono Dc) (Qa (pv 0) (Qa Qd Qc))) Qd)))
  (Qe (Z4 3 scLaw.nd (Xc R (hr.mono Dc) (Qa (pv 1) (Qa (pv 2) (Qa (Za Wy (pv 0) (Yt Qd) (Yt Qd)) Qc)))))
  (Qe (Z4 3 scLaw.nd (Za Wy (pv 3) Kp (Yt (Qx Yx (Xc p (hr.mono Dc) (Qa (pv 0) (Qa Qd Qc))) (Qx Yw (qL (pv 3)) Qd)))))
  (Qe (Xe (PW.pt (Kn (Qq Qwj (qL (Qo Qm (pv 1) Qd)) Qd (Qt _)) (Ju (Qq Xz (Qx Yx (Xc p (hr.mono Dc) (Qa (pv 0) (Qa Qd Qc))) Qd) Qd (Qt _))))) (Qh (Z4 3 scLaw.nd (pe_fn0 aF (hr.mono Dc)))) Qr)
  (Qe (Z4 4 scLaw.nd (Xp (Qa (Xc ay (hr.mono Dc) (Qa (pv 1) Qc)) (Qa (Qz Ym rfl M.list_ Yj (Qa (pv 3) Qc)) Qc))))
  (Qe (Xy PassesOwn.never rfl (Yi rfl M.range_ (Qa Qd Qc)) (Z3 5 scLaw.nd) (Qe (Z4 6 scLaw.nd (Xc ag (hr.mono Dc) (Qa (Qo ix_list (pv 4) Qd) (Qa (pv 2) (Qa (Qo ix_list (pv 4) Qd) Qc)))))
  (Qe (Z4 7 scLaw.nd (Xc S (hr.mono Dc) (Qa (pv 1) (Qa (pv 2) (Qa (pv 6) Qc)))))
  (Qe (Xe (PW.pt (Yv (Qq Qgf (pv 7) Xk (Qt _)) (Yh (Qq (Qjo (n:=6) aP) (pv 4) (Xp (Qa (pv 1) (Qa (pv 3) Qc))) (Qt _))))) (Qh (Qp Qbq)) Qr)
  (Qe (Xe (PW.pt (Yv (Qq Xz (qL (pv 3)) Qd (Qt _)) (Yh (Qq Xz (qL (pv 6)) Qd (Qt _))))) (Qh (Qp (Jq (Ze Xz (qL (pv 3)) Qd (Qt _)) (Qao (Ze Xz (qL (pv 6)) Qd (Qt _)))))) Qr)
  (Qe (Xe (PW.pt (Yv (Qq (Qjo (n:=6) aP) (Qo ix_list (pv 7) (Jr Zg Qd)) (Qo ix_list (Xc S (hr.mono Dc) (Qa (pv 1) (Qa (pv 2) (Qa (pv 3) Qc)))) (Jr Zg Qd)) (Qt _)) (Yh (Qq Qwj (qL (pv 6)) (Xc N (hr.mono Dc) (Qa (pv 3) Qc)) (Qt _))))) (Qh (Qp Qbq)) Qr)
  (Qe (Xe (PW.pt (Yv (Qq Qaw (Xc N (hr.mono Dc) (Qa (pv 6) Qc)) (qL (pv 6)) (Qt _)) (Yh (Qq Qaw (Qi Qfz rfl M.len Qy (Qa (Qz (SR rfl aP) rfl M.set_ Qox (Qa (pv 7) Qc)) Qc)) (qL (pv 7)) (Qt _))))) (Qh (Qp Qbq)) Qr)
  (Qe (Xy PassesOwn.never rfl (Xl (pv 6)) (Z3 8 scLaw.nd) (Qh (Xy PassesOwn.never rfl (Qbr (pv 8)) (Z3 9 scLaw.nd) (Qh (Xe (Xj (Qi Xm rfl M.isinstance Qw (Qa (pv 9) (Qa (Jl M.list_ Yj) Qc)))) (Qh (Zj (Wz Y1 Y2 Y3 Ye (pv 9) (Qa Qd Qc)))) Qr)))))
  (Qe (Zj (Wz Y1 Y2 Y3 Ye (pv 6) (Qa (Xh (Qa Xi Qc)) Qc)))
  (Qe (Z4 10 scLaw.nd (Za Wy (Xc R (hr.mono Dc) (Qa (pv 1) (Qa (pv 2) (Qa (Za Wy (pv 0) (Yt Qd) (Yt Qd)) Qc)))) Kp (Yt (qL (pv 3)))))
  (Qh (Xe (PW.pt (Kn (Qq Qeg (qL (pv 3)) Qd (Qt _)) (Ju (Qq (Qjo (n:=6) aP) (Qo ix_list (pv 4) Qd) (pv 10) (Qt _))))) (Qh (Qp Qbq)) Qr))))))))))))
  (Qh (Qp Qbq))))))))),?_⟩
 exists"z"
 exists 4,a,ns,6,6,rfl,hS,hB,Dc,Dc,Dc,Dc,fun t rs cs H1 s1 pt am cJ cD=>?_
 obtain⟨lP,cP,vP,ht,bO,cx,bf⟩:=id pt
 exists 4,a,ns,9,rfl,s1.seq hS,hB,Dc,fun z9 _=>?_
 exists 7,⟨Dc,Dc⟩,7,by show(0:Int)<9;decide,_,_,rfl,rfl,Z1 2,fun p2 ck=>?_
 have a2:=Qb ck (.lst [.non,.int (z9 / 2 % 9-4)])
 have b2:upd H1 p2 (.lst [.non,.int (z9 / 2 % 9-4)]) p2=some (.lst [.non,.int (z9 / 2 % 9-4)]):=upd_same
 generalize upd H1 p2 (.lst [.non,.int (z9 / 2 % 9-4)])=H2 at a2 b2⊢
 have s2:=s1.trans a2
 exists 4,a,ns,9,rfl,s2.seq hS,hB,Dc,fun y9 _=>?_
 have e0:=jQa y9 (show(2:Int)≠0 by decide)
 have e1:=wJ y9 (show(0:Int)<2 by decide)
 obtain⟨best,bo⟩:∃best:Option Int,atI [V.non,.int (z9 / 2 % 9-4)] (y9 % 2)=some (Vk best):=by
  rcases two_of (v:=.non) (x:=V.non) (y:=.int (z9 / 2 % 9-4)) e0 e1 with e | e
  .exact⟨none,e⟩
  .exact⟨some _,e⟩
 exists 7,by show(0:Int)<2;decide,p2,_,_,_,rfl,rfl,Qg b2,bo,?_
 exists 4,4,4,4,4,a,4,s2.seq hS,fun c3 b0=>?_
 obtain⟨zs,bB,cG⟩:=Qux ns (some 20) (some 63)
 rw[bB]
 have a3:=Qb b0 (.lst (zs.map V.int))
 have b3:upd H2 c3 (.lst (zs.map V.int)) c3=some (.lst (zs.map V.int)):=upd_same
 generalize upd H2 c3 (.lst (zs.map V.int))=H3 at a3 b3⊢
 have s3:=s2.trans a3
 have bJ:=ProbAt.same (a2.trans a3) pt
 exists t,c3,rs,cs,best,zs,rfl,bJ,am,Qg b3,Om,Om,Om,fun g0 U H4 s4 _ bd bn br cj=>?_
 have bP:=s3.trans s4
 have ca:=Paired.length bn
 exists 4,4,a,ns,10,rfl,bP.seq hS,hB,Dc,fun b4 _=>?_
 exists 4,g0,4,.inl (Qg bd),7,7,by show(0:Int)<_;lia,_,rfl,g0,_,rfl,Qg bd,fun g5 bz=>?_
 obtain⟨m,em⟩:=Quy U (some (b4 % ((U.length:Int)+1)))
 rw[em]
 have a5:=Qb bz (.lst (U.take m))
 have b5:upd H4 g5 (.lst (U.take m)) g5=some (.lst (U.take m)):=upd_same
 have bi:LinesAt K (upd H4 g5 (.lst (U.take m))) (U.take m) ((papF rs cs best zs).1.take m):=LinesAt.same (Vv bn m) a5
 generalize upd H4 g5 (.lst (U.take m))=H5 at a5 b5 bi⊢
 have bm:=bP.trans a5
 have aI:=(a2.trans a3).trans (s4.trans a5)
 refine Qku (fun bq H'=>∃(g:Addr) (G:List V) (r:List DL) (hd:List Rw),bq=[some (.ref a),some (.ref t),some (Vk best),some (.ref g),none,none,none,none,none,none,none]/\H' g=some (.lst G)/\LinesAt K H' G r/\Right rs cs best r hd/\r.length<=1501/\One r/\(r.length<1000->r=(papF rs cs best zs).1.take r.length)/\Same H1 H'/\Same H H') ?_ fun REST=>?_
 rotate_left
 .have au:=REST _ _ ⟨g5,_,_,_,rfl,b5,bi,br.take m,by rw[yY];lia,.inl (by rw[yY];lia),fun _=>(by
   rw[yY]
   by_cases c:m<=(papF rs cs best zs).1.length
   .rw[jYc c]
   .rw[Nat.min_eq_right Om,wV,yW Om]),aI,bm⟩
  exists 4,t,8,aI.tup ht,at1,cP,4,.inr (aI.tup bf),7,4,ite2 (fun y=>?_) (fun _=>iteF au)
  have bY:0<cs.length:=by
   have:=kZ y
   rw[jQ]at this
   lia
  exists 4,a,ns,11,rfl,bm.seq hS,hB,Dc,fun cE _=>⟨_,_,rfl,rfl,by show(0:Int)<16;decide,rfl,_,rfl,ite2 (fun _=>?_) (fun _=>au)⟩
  obtain⟨cn,cw⟩:=Qec (rs:=rs) (best:=best) bY 1500 (jZ _)
  exists rfl,fun g G H6 s6 _ aJ aM=>REST _ _ ⟨g,G,_,cn,rfl,aJ,aM,cw,by rw[Wx];decide,.inr (Qlg _),fun z=>(by rw[Wx]at z;lia),aI.trans s6,bm.trans s6⟩
 clear bi bn br cj ca b5 b3 b2 bd bz bJ
 rintro bq H6 ⟨g,G,r,hd,rfl,aJ,aM,aR,cN,cd,cm,p6,s6⟩
 have lu:=Paired.length aM
 have b9:=aR.names
 have b7:=aR.length
 exists 4,t,lP,cP,vP,rfl,p6.tup ht,p6.seq bO,⟨_,p6.tup bf⟩,fun T gq H7 a7 _ _ hT bV=>?_
 exists 4,g,4,.inl (Qg (a7 _ _ aJ)),fun g2 bS=>?_
 have a8:=Qb bS (.lst G)
 have b8:upd H7 g2 (.lst G) g2=some (.lst G):=upd_same
 generalize upd H7 g2 (.lst G)=H8 at a8 b8⊢
 exists Z1 2,fun hb bH=>?_
 have a9:=Qb bH (.lst [.ref T,.ref g2])
 have aw:upd H8 hb (.lst [.ref T,.ref g2]) hb=some (.lst [.ref T,.ref g2]):=upd_same
 generalize upd H8 hb (.lst [.ref T,.ref g2])=H9 at a9 aw⊢
 have aH:=(a7.trans a8).trans a9
 have p9:=p6.trans aH
 have bh:=(a8.trans a9).tup hT
 have ax:=(a8.trans a9) _ _ bV
 have al:=a9 _ _ b8
 have ae:=aH _ _ aJ
 have bb:=p9.tup ht
 have az:=p9.seq bO
 have ak:=p9.tup bf
 have ai:RowsAre K H9 vP rs:=cx.imp fun _ _ z=>z.same p9
 have Z:=LinesAt.same aM aH
 have cl:=(s6.trans aH).seq hS
 have pT:ProbAt K H9 T rs cs:=⟨gq,cP,vP,bh,Qg ax,ai,ak⟩
 have aO:ProbAt K H9 t rs cs:=⟨lP,cP,vP,bb,az,ai,ak⟩
 clear b8 bH bS bV hT
 let bF:Nat->St->Hp->Prop:=fun i σ B=>∃v5 v6 v7 v8 v9 aC:Option V,σ=[some (.ref a),some (.ref t),some (Vk best),some (.ref g),some (.ref hb),v5,v6,v7,v8,v9,aC]/\Same H9 B
 exists 2,rfl,Dc,Dc,Jf (lo:=0) (n:=Int.toNat 2) bF ⟨none,none,none,none,none,none,rfl,Same.refl _⟩ ?_ ?_
 .rintro i σ B hi ⟨v5,v6,v7,v8,v9,aC,rfl,ab⟩
  have aW:=ab _ _ aw
  exists 4,hb,8,Qg aW,at0,4,4,hb,8,Qg aW,at1,T,g2,G,r,rs,hd,cs,best,rfl,ProbAt.same ab pT,am,Qg (ab _ _ al),LinesAt.same Z ab,aR,Om,Om,Om,cd,fun e0 I cf aL _ hF=>?_,fun bt I zF F RF cf aL ao aa cK=>?_
  .subst e0
   have u0:G=[]:=kQf.mp lu
   have aq:=ab.trans aL
   exists 4,4,4,t,I,rs,[],cs,best,[],[],rfl,ProbAt.same aq aO,am,Qg hF,.nil,.nil,Om,Om,by show 0<=2000;lia,fun gH wH av ad _ hH _=>?_
   have aZ:=aq.trans ad
   exists 4,rfl,4,ite2 (fun y=>Y21 (kZ y) (fun z=>nomatch z)) (fun _=>?_)
   exists 4,4,4,Z1 2,fun X hX=>?_
   have D:=Qb hX (.lst [.ref t,.ref g])
   have ar:upd av X (.lst [.ref t,.ref g]) X=some (.lst [.ref t,.ref g]):=upd_same
   generalize upd av X (.lst [.ref t,.ref g])=H13 at D ar⊢
   have d:=aZ.trans D
   refine⟨hb,X,rfl,rfl,.lst (n:=5) (Qg (d _ _ aw)) (Qg ar) rfl fun i x y e e'=>(by
    rcases i with _ | _ | i
    .cases e;cases e'
     exact Qrk (n:=1) (d.tup bh) (d.tup bb) (Qg (d _ _ ax)) (d.seq az) (ai.imp fun _ _ z=>z.same d) (d.tup ak)
    .cases e;cases e'
     exact Qga (n:=1) (Qg (d _ _ al)) (Qg (d _ _ ae)) (LinesAt.same Z d) (LinesAt.same Z d)
    .exact nomatch e),_,rfl,iteF ?_⟩
   have aj:=(ad.trans D) _ _ hF
   have O:=d _ _ ae
   rw[u0]at O
   exists 4,g,4,.inl (Qg O),rfl,4,ite2 (fun _=>iteT ?_) (fun y=>Y21 rfl y)
   exists 4,g,4,.inl (Qg O),rfl,4,iteT ⟨_,rfl,I,_,rfl,.inl (Qg aj),rfl,q _⟩
  .have aq:=ab.trans aL
   have hF:=ao.2.1
   have lF:=aa.right.length
   have bZ:=Paired.length ao.lines
   have cL:=Qam r
   have bc:=aa.pos
   exists 4,4,4,t,I,rs,RF,cs,best,zF,F,rfl,ProbAt.same aq aO,am,Qg hF,ao.lines,aa.right,Om,Om,Om,fun gH wH av ad _ hH aG=>?_
   have aZ:=aq.trans ad
   have bU:=Paired.length aG
   exists 4,rfl,4,ite2 (fun y=>Y21 (kZ y) (fun z=>nomatch z)) (fun _=>?_)
   exists 4,4,4,Z1 2,fun X hX=>?_
   have D:=Qb hX (.lst [.ref t,.ref g])
   have ar:upd av X (.lst [.ref t,.ref g]) X=some (.lst [.ref t,.ref g]):=upd_same
   generalize upd av X (.lst [.ref t,.ref g])=H13 at D ar⊢
   have d:=aZ.trans D
   refine⟨hb,X,rfl,rfl,.lst (n:=5) (Qg (d _ _ aw)) (Qg ar) rfl fun i x y e e'=>(by
    rcases i with _ | _ | i
    .cases e;cases e'
     exact Qrk (n:=1) (d.tup bh) (d.tup bb) (Qg (d _ _ ax)) (d.seq az) (ai.imp fun _ _ z=>z.same d) (d.tup ak)
    .cases e;cases e'
     exact Qga (n:=1) (Qg (d _ _ al)) (Qg (d _ _ ae)) (LinesAt.same Z d) (LinesAt.same Z d)
    .exact nomatch e),_,rfl,iteF ?_⟩
   have aj:=(ad.trans D) _ _ hF
   have O:=d _ _ ae
   exists 4,g,4,.inl (Qg O),rfl,4,ite2 (fun y=>?_) (fun _=>?_)
   .have y':(G.length:Int)=0:=V.int.inj (kZ y)
    lia
   exists 4,I,4,.inl (Qg aj),rfl,4,ite2 (fun y=>?_) (fun _=>?_)
   .have y':(zF.length:Int)=0:=V.int.inj (kZ y)
    lia
   obtain⟨rX,cv,tX,eX,bw⟩:=L2.Xx aG (gE (show wH.length-1<wH.length by lia))
   have bv:=D _ _ hH
   have ci:atI wH (-1)=some (.ref tX):=Qjl (by rw[gE (show wH.length-1<wH.length by lia),eX]) Om
   exists 4,4,gH,8,Qg bv,ci,4,4,4,t,g,rs,hd,cs,best,G,r,rfl,ProbAt.same d aO,am,Qg O,LinesAt.same Z d,aR,Om,Om,Om,fun gP wP cq aA _ hP ba=>?_
   have cg:=Paired.length ba
   obtain⟨rY,cy,tY,eY,a1⟩:=L2.Xx ba (gE (show wP.length-1<wP.length by lia))
   have b1:atI wP (-1)=some (.ref tY):=Qjl (by rw[gE (show wP.length-1<wP.length by lia),eY]) Om
   have b6:rX=rY:=by
    have e1:=Jj cv
    have e2:=Jj cy
    have e3:=aa.last
    rw[bU]at e1
    rw[cg,b7]at e2
    rw[<-e1,<-e2,e3]
   rw[<-b6]at a1
   have bW:=d.trans aA
   exists 4,gP,8,Qg hP,b1,tX,tY,rfl,rfl,Qwd (n:=4) (bw.same (D.trans aA)) a1,4,iteF ?_
   have aS:=aA _ _ aj
   have aE:LinesAt K cq zF F:=LinesAt.same ao.lines ((ad.trans D).trans aA)
   exists 4,I,4,.inl (Qg aS),4,g,G,r,rfl,Qg (bW _ _ ae),LinesAt.same Z bW,b9,bt,Om,fun cI a0=>⟨_,_,rfl,rfl,_,rfl,ite2 (fun y=>?_) (fun _=>?_)⟩
   .have y':(((dueL r).length:Nat):Int)<(zF.length:Int):=kZ y
    lia
   have aU:=a0 _ _ aS
   exists 4,I,zF,F,rfl,Qg aU,LinesAt.same aE a0,aa.right.names,bc,Om,fun bs bG=>⟨_,rfl,I,_,rfl,.inl (Qg (bG _ _ aU)),rfl,_,rfl,ite2 (fun y=>?_) (fun _=>?_)⟩
   .have e9:(((dueL F).length:Nat):Int)=(zF.length:Int):=by rw[aa.all,bZ]
    have y':(!decide (V.int (((dueL F).length:Nat):Int)=V.int (zF.length:Int)))=true:=y
    rw[e9]at y';exact Y21 y' (by simp)
   have bk:=((D.trans aA).trans a0).trans bG
   have aY:=bk _ _ hH
   exists 4,gH,wH,RF,rfl,Qg aY,aG.imp fun _ _ z=>z.same bk,aa.nd,Om,fun dS cc=>?_
   have a4:=Qb cc (RSo dS RF.length)
   have a6:upd bs dS (RSo dS RF.length) dS=some (RSo dS RF.length):=upd_same
   generalize upd bs dS (RSo dS RF.length)=H17 at a4 a6⊢
   exists dS,4,a6,4,gH,4,.inl (Qg (a4 _ _ aY)),rfl,4,ite2 (fun y=>?_) (fun _=>?_)
   .have e9:(RF.length:Int)=(wH.length:Int):=by rw[bU]
    have y':(!decide (V.int (RF.length:Int)=V.int (wH.length:Int)))=true:=y
    rw[e9]at y';exact Y21 y' (by simp)
   have aN:=(ad.trans bk).trans a4
   have aV:=aN _ _ hF
   have cM:=aq.trans aN
   have cb:=ao.1
   obtain⟨_,_,HX,ce,cu,ct⟩:=id ao
   have bX:∀v∈zF,LnM K B H17 I (100+4*0) v:=fun v hv=>by
    obtain⟨j,hj,ej⟩:=jXb.mp hv
    obtain⟨ln,el,u,e,w⟩:=L2.Xx ct (gE hj)
    rw[<-ej,e]
    exact(lnM_of ce (show cs.length<=20 by lia) cu w (aa.right.at el).1).same aN
   clear bw a1 aG ba a6 hP ar hX aE
   have S6:Same B H17:=aL.trans aN
   let bQ:Nat->St->Hp->Prop:=fun j σ ah=>∃v8 v9:Option V,σ=[some (.ref a),some (.ref t),some (Vk best),some (.ref g),some (.ref hb),some (.int (0+(i:Int))),some (.ref I),some (.ref gH),v8,v9,aC]/\ah I=some (.lst zF)/\(∀v∈zF,LnM K B ah I (100+4*j) v)/\Same B ah
   exists 4,I,rfl,⟨_,Qg aV⟩,Yq (K:=K) (a:=I) (xs:=zF) bQ ⟨v8,v9,rfl,aV,bX,S6⟩ (fun j σ ah _ h=>?_) ?_ ?_
   .obtain⟨_,_,rfl,an,_,_⟩:=h
    exact Qg an
   .rintro j x σ ah ex ⟨v8,v9,rfl,an,aD,bl⟩
    have hj:=(jW.mp ex).1
    obtain⟨u,xs,rfl,hu,h4,bC⟩:=aD x (kX ex)
    exists 4,u,rfl,⟨_,hu⟩,Qng (K:=K) (a:=u) (xs:=xs) (fun k σ C=>∃v9:Option V,σ=[some (.ref a),some (.ref t),some (Vk best),some (.ref g),some (.ref hb),some (.int (0+(i:Int))),some (.ref I),some (.ref gH),some (.ref u),v9,aC]/\C I=some (.lst zF)/\(∀v∈zF,LnM K B C I (100+4*j+k) v)/\SqT K C u xs/\(∀x∈xs,PX B C I (100+4*j+k) x)/\Same B C) ⟨v9,rfl,an,aD,hu,bC,bl⟩ (fun k σ C _ h=>?_) ?_ ?_
    .obtain⟨_,rfl,_,_,L,_,_⟩:=h
     exact L
    .rintro k x σ C bI ⟨v9,rfl,af,ac,L,W,aB⟩
     have hk:=(jW.mp bI).1
     rcases W x (kX bI)with⟨n,rfl⟩ | ⟨z,rfl⟩ | ⟨l,ys,rfl,l0,lg,hl,hy⟩
     .exact⟨_,rfl,_,"list",false,rfl,.list,rfl,_,rfl,iteF ⟨_,rfl,af,fun v hv=>(ac v hv).mono Om,L,fun x hx=>(W x hx).mono Om,aB⟩⟩
     .exact⟨_,rfl,_,"list",false,rfl,.list,rfl,_,rfl,iteF ⟨_,rfl,af,fun v hv=>(ac v hv).mono Om,L,fun x hx=>(W x hx).mono Om,aB⟩⟩
     .refine⟨_,rfl,_,"list",true,rfl,.list,.inr ⟨⟨_,Qg hl⟩,rfl⟩,_,rfl,iteT ?_⟩
      have cB:=X0 20000
      exists 4,.inl ⟨rfl,_,Qg hl⟩,l,7,hl,Om,4,by rw[Qn lg.symm];exact af,fun v hv=>(ac v hv).upd hl (by rw[yQ];exact yXa hy),Yk hl L,fun x hx=>(W x hx).upd hl (by rw[yQ];exact yXa hy),fun b o e=>?_
      rw[Qn (Qk e l0)];exact aB _ _ e
    .rintro σ C ⟨v9,rfl,af,ac,L,W,aB⟩
     exists _,4,af,fun v hv=>(ac v hv).mono Om,aB
   .rintro σ ah ⟨v8,v9,rfl,an,aD,bl⟩
    exists 4,.inl ⟨rfl,_,Qg an⟩,Z1 1,fun tb ch=>?_
    have bj:=Qb ch (.tup [.str "better"])
    generalize upd ah tb (.tup [.str "better"])=C at bj⊢
    have af:=bj _ _ an
    exists I,7,af,Om,?_
    have bL:Same B (upd C I (.lst (zF++[.ref tb]))):=fun b o e=>by rw[Qn (Qk e cb)];exact bj _ _ (bl _ _ e)
    generalize upd C I (.lst (zF++[.ref tb]))=H20 at bL⊢
    have aX:=ab.trans bL
    exists 4,4,4,4,4,a,4,aX.seq cl,fun aK bp=>?_
    rw[bB]
    have bM:=Qb bp (.lst (zs.map V.int))
    have bD:upd H20 aK (.lst (zs.map V.int)) aK=some (.lst (zs.map V.int)):=upd_same
    generalize upd H20 aK (.lst (zs.map V.int))=H21 at bM bD⊢
    have bx:=aX.trans bM
    exists t,aK,rs,cs,best,zs,rfl,ProbAt.same bx aO,am,Qg bD,Om,Om,Om,fun co J bA cp _ bK aT cz cA=>?_
    have bN:=bx.trans cp
    exists 4,g,4,.inl (Qg (bN _ _ ae)),4,co,4,Qg bK,fun aQ bR=>?_
    have bg:=Qb bR (.lst (cutV J none (some (G.length:Int))))
    have be:upd bA aQ (.lst (cutV J none (some (G.length:Int)))) aQ=some (.lst (cutV J none (some (G.length:Int)))):=upd_same
    generalize upd bA aQ (.lst (cutV J none (some (G.length:Int))))=H23 at bg be⊢
    have ap:=bN.trans bg
    exists 4,g,4,.inl (Qg (ap _ _ ae)),7,4,ite2 (fun y=>?_) (fun _=>⟨_,_,_,_,_,_,rfl,ap⟩)
    have y':(G.length:Int)<1000:=kZ y
    have ef:=cm Om
    have cC:=Paired.length aT
    have bu:G.length<=J.length:=by
     have:=congrArg List.length ef
     rw[yY]at this
     lia
    rw[Qvx _ _ bu]at be
    have bE:LinesAt K H23 (J.take G.length) r:=by
     have:=LinesAt.same (Vv aT G.length) bg
     rw[lu,<-ef]at this
     rw[lu];exact this
    have bT:=ap _ _ aw
    exists 4,hb,8,Qg bT,at1,4,g2,aQ,rfl,rfl,Qga (n:=2) (Qg (ap _ _ al)) (Qg be) (LinesAt.same Z ap) bE,4,iteF ⟨_,_,_,_,_,_,rfl,ap⟩
 .rintro σ B ⟨v5,v6,v7,v8,v9,aC,rfl,ab⟩
  exact q B
end Nb
namespace Nb
open PySem
def lc(x:Nat):Nat->Nat
 |0=>x
 |n+1=>5*lc x n+1
theorem Qrl(x m:Nat):∀n,lc x (m+n)=lc (lc x m) n
 |0=>rfl
 |n+1=>by rw[<-kJe];show 5*lc x (m+n)+1=_;rw[Qrl x m n];rfl
theorem Qwe:∀k,∃a b,∀x,lc x (2 ^ k)=x+2 ^ k*(4*a*x)+2 ^ k*(2*b+1)
 |0=>⟨1,0,fun x=>by show 5*x+1=_;lia⟩
 |k+1=>by
  obtain⟨a,b,h⟩:=Qwe k
  exists a+2*2 ^ k*(a*a),b+2 ^ k*(a*(2*b+1)),fun x=>?_
  rw[show 2 ^ (k+1)=2 ^ k+2 ^ k by rw[kKe];lia,Qrl,h,h]
  generalize 2 ^ k=p
  grind
theorem Qrm:∀k x e,∃n,n<2 ^ k/\lc x n % 2 ^ k=e % 2 ^ k
 |0,x,e=>⟨0,Dc,by rw[Nat.pow_zero,Nat.mod_one,Nat.mod_one]⟩
 |k+1,x,e=>by
  obtain⟨n,q,h⟩:=Qrm k x e
  obtain⟨a,b,g⟩:=Qwe k
  have p:0<2 ^ k:=Nat.pow_pos Dc
  have i:=g (lc x n)
  rw[<-Qrl]at i
  rw[show 2 ^ (k+1)=2*2 ^ k by rw[kKe];lia]
  have j:lc x n % (2*2 ^ k)=lc x n % 2 ^ k+2 ^ k*(lc x n / 2 ^ k % 2):=by rw[yXe,Nat.mod_mul]
  have f:e % (2*2 ^ k)=e % 2 ^ k+2 ^ k*(e / 2 ^ k % 2):=by rw[yXe,Nat.mod_mul]
  have o:lc x (n+2 ^ k) % (2*2 ^ k)=lc x (n+2 ^ k) % 2 ^ k+2 ^ k*(lc x (n+2 ^ k) / 2 ^ k % 2):=by rw[yXe,Nat.mod_mul]
  have d:lc x (n+2 ^ k)=lc x n+2 ^ k*(4*a*lc x n+(2*b+1)):=by rw[i,kJe,<-Nat.mul_add]
  have l:lc x (n+2 ^ k) % 2 ^ k=lc x n % 2 ^ k:=by rw[d,Nat.add_mul_mod_self_left]
  have m:lc x (n+2 ^ k) / 2 ^ k=lc x n / 2 ^ k+(4*a*lc x n+(2*b+1)):=by rw[d,Nat.add_mul_div_left _ _ p]
  by_cases c:lc x n / 2 ^ k % 2=e / 2 ^ k % 2
  .exact⟨n,Om,by rw[j,f,h,c]⟩
  .refine⟨n+2 ^ k,Om,?_⟩
   rw[o,f,l,h,m]
   have:(lc x n / 2 ^ k+(4*a*lc x n+(2*b+1))) % 2=e / 2 ^ k % 2:=by
    rw[Nat.mul_assoc]
    generalize a*lc x n=z
    lia
   rw[this]
def lp(mask:Nat)(i r:Nat):Nat->Nat×Nat
 |0=>(i,r)
 |n+1=>SetTable.leap mask (lp mask i r n).1 (lp mask i r n).2
theorem Qrn(mask i r m:Nat):∀n,lp mask i r (m+n)=lp mask (lp mask i r m).1 (lp mask i r m).2 n
 |0=>rfl
 |n+1=>by rw[<-kJe];show SetTable.leap mask (lp mask i r (m+n)).1 (lp mask i r (m+n)).2=_;rw[Qrn mask i r m n];rfl
theorem Qjp(mask i r:Nat):∀n,(lp mask i r n).2=r / 32 ^ n
 |0=>by show r=_;rw[Nat.pow_zero,Nat.div_one]
 |n+1=>by show(lp mask i r n).2 / 32=_;rw[Qjp mask i r n,Nat.div_div_eq_div_mul,kKe]
theorem Qro(mask i:Nat):∀n,(lp mask i 0 n).1 % (mask+1)=lc i n % (mask+1)
 |0=>rfl
 |n+1=>by
  show((lp mask i 0 n).1*5+1+(lp mask i 0 n).2 / 32) % (mask+1) % (mask+1)=(5*lc i n+1) % (mask+1)
  have e:(lp mask i 0 n).2=0:=by rw[Qjp,Nat.zero_div]
  rw[e,Nat.zero_div,Nat.mod_mod,Nat.add_zero,Nat.add_mod,Nat.mul_mod,Qro mask i n,<-Nat.mul_mod,<-Nat.add_mod,yXe]
theorem Qyd(r:Nat)(h:i<=mask):∀n,(lp mask i r n).1<=mask
 |0=>h
 |n+1=>by
  show((lp mask i r n).1*5+1+(lp mask i r n).2 / 32) % (mask+1)<=mask
  exact yQc (Nat.mod_lt _ (kXc _))
theorem Qrp(h:Int):SetTable.bits h<2 ^ 64:=by
 unfold SetTable.bits
 have:=wJ h (show(0:Int)<2 ^ 64 by decide)
 have:=jQa h (show(2 ^ 64:Int)≠0 by decide)
 lia
theorem Qrq{k r e:Nat}(c:mask+1=2 ^ k)(d:i<=mask)(a:r<2 ^ 64)(he:e<=mask):∃n,n<=mask+13/\(lp mask i r n).1=e:=by
 have b:(lp mask i r 13).2=0:=by
  rw[Qjp]
  exact Nat.div_eq_of_lt (xJ a Dc)
 obtain⟨n,f,h⟩:=Qrm k (lp mask i r 13).1 e
 exists 13+n,Om,?_
 rw[Qrn,b]
 have z:=Qro mask (lp mask i r 13).1 n
 rw[c,h,Nat.mod_eq_of_lt (show e<2 ^ k by lia)]at z
 have l:=Qyd (mask:=mask) 0 (Qyd r d 13) n
 rw[Nat.mod_eq_of_lt Om]at z
 exact z
abbrev Pr:=SetTable.Probe
def st(t:SetTable)(p:Pr):Nat->Pr
 |0=>p
 |n+1=>t.advance (st t p n)
theorem Qed(t:SetTable)(p:Pr)(m:Nat):∀n,st t p (m+n)=st t (st t p m) n
 |0=>rfl
 |n+1=>by rw[<-kJe];show t.advance (st t p (m+n))=_;rw[Qed t p m n];rfl
theorem Qwf(t:SetTable)(p:Pr):∀n,n<=p.more->st t p n={ p with j:=p.j+n,more:=p.more-n }
 |0,_=>rfl
 |n+1,h=>by
  show t.advance (st t p n)=_
  rw[Qwf t p n Om]
  unfold SetTable.advance
  rw[Y22 (show p.more-n > 0 by lia)]
  rfl
theorem Qye(t:SetTable)(p:Pr)(h:p.more=SetTable.runEnd t.mask p.i-p.i):∃n,n<=10/\st t p n={ p with j:=(SetTable.leap t.mask p.i p.perturb).1,more:=SetTable.runEnd t.mask (SetTable.leap t.mask p.i p.perturb).1-(SetTable.leap t.mask p.i p.perturb).1,i:=(SetTable.leap t.mask p.i p.perturb).1,perturb:=(SetTable.leap t.mask p.i p.perturb).2 }:=by
 have a:p.more<=9:=by rw[h];unfold SetTable.runEnd;split<;>lia
 exists p.more+1,Om,?_
 show t.advance (st t p p.more)=_
 rw[Qwf t p p.more (jZ _)]
 unfold SetTable.advance
 rw[Y20 (show ¬(p.more-p.more > 0)by lia)]
theorem st_lp(t:SetTable)(h:Int):∀n,∃m,m<=10*n/\st t (t.probeStart h) m={ j:=(lp t.mask (SetTable.bits h % (t.mask+1)) (SetTable.bits h) n).1,more:=SetTable.runEnd t.mask (lp t.mask (SetTable.bits h % (t.mask+1)) (SetTable.bits h) n).1-(lp t.mask (SetTable.bits h % (t.mask+1)) (SetTable.bits h) n).1,i:=(lp t.mask (SetTable.bits h % (t.mask+1)) (SetTable.bits h) n).1,perturb:=(lp t.mask (SetTable.bits h % (t.mask+1)) (SetTable.bits h) n).2,dummy:=none }
 |0=>⟨0,jZ _,rfl⟩
 |n+1=>by
  obtain⟨m,d,e⟩:=st_lp t h n
  obtain⟨c,a,b⟩:=Qye t (st t (t.probeStart h) m) (by rw[e])
  exists m+c,Om,?_
  rw[Qed,b,e]
  rfl
structure TOk(t:SetTable)(n:Nat):Prop where
 size:t.place.size=n
 dum:t.dummies=#[]
 pow:∃k,3<=k/\t.mask+1=2 ^ k
 full:n*5<t.mask*3
theorem Qrr(j:Nat):SetTable.has #[] j=false:=by
 unfold SetTable.has
 rw[Array.getElem?_eq_none (by simp)]
 rfl
theorem Qrs{t:SetTable}(hd:t.dummies=#[])(j:Nat):t.slot j=.empty\/∃i,t.slot j=.live i/\t.place[i]?=some j:=by
 unfold SetTable.slot
 dsimp only
 by_cases c:(t.place[SetTable.below t.place j]? == some j)=true
 .rw[Y22 c];exact .inr ⟨_,rfl,by simpa using c⟩
 .rw[Y20 c,hd,Qrr,Y20 yX];exact .inl rfl
theorem Qrt:∀(n:Nat) (xs:List Nat),(∀j<n,j∈xs)->n<=xs.length
 |0,_,_=>jQf _
 |n+1,xs,h=>by
  have a:=h n (Nat.lt_succ_self _)
  have:=Qrt n (xs.erase n) fun j b=>(List.mem_erase_of_ne Om).mpr (h j Om)
  rw[kJa a]at this
  have:0<xs.length:=yXf a
  lia
theorem Qmw{t:SetTable}(h:TOk t n):∃e,e<=t.mask/\t.slot e=.empty:=by
 refine Classical.byContradiction fun c=>?_
 have:=Qrt (t.mask+1) t.place.toList fun j a=>by
  rcases Qrs h.dum j with e | ⟨i,_,e⟩
  .exact Y21 ⟨j,Om,e⟩ c
  .rw[<-jJb]at e;exact kX e
 rw[xX,h.size]at this
 have:=h.full
 lia
theorem Qjq{t:SetTable}(h:TOk t n)(x:Int):∃m,m<10*SetTable.turns t.mask/\t.slot (st t (t.probeStart x) m).j=.empty:=by
 obtain⟨e,d,l⟩:=Qmw h
 obtain⟨k,_,b⟩:=h.pow
 obtain⟨a,c,g⟩:=Qrq (i:=SetTable.bits x % (t.mask+1)) b (yQc (Nat.mod_lt _ (kXc _))) (Qrp x) d
 obtain⟨m,o,f⟩:=st_lp t x a
 exists m,by unfold SetTable.turns;lia,?_
 rw[f]
 show t.slot (lp t.mask (SetTable.bits x % (t.mask+1)) (SetTable.bits x) a).1=_
 rw[g];exact l
theorem Qie(t:SetTable)(p:Pr):(t.advance p).dummy=p.dummy:=by unfold SetTable.advance;split<;>rfl
theorem Qlm(t:SetTable)(p:Pr):∀n,(st t p n).dummy=p.dummy
 |0=>rfl
 |n+1=>by show(t.advance (st t p n)).dummy=_;rw[Qie,Qlm t p n]
theorem Qru{t:SetTable}(hd:t.dummies=#[])(k:Nat->Int)(x:Int):∀(m:Nat) (p:Pr) (fuel:Nat),m<fuel->t.slot (st t p m).j=.empty->p.dummy=none ->
  (∃j,SetTable.probe.go t k x fuel p=some (.empty j none))\/∃m' j i,m'<m/\j=(st t p m').j/\t.slot j=.live i/\t.place[i]?=some j/\k i=x/\SetTable.probe.go t k x fuel p=some (.candidate j i (st t p (m'+1)))
 |m,p,0,h,_,_=>Y21 h (kXe _)
 |m,p,fuel+1,h,he,hn=>by
  unfold SetTable.probe.go
  rcases Qrs hd p.j with e | ⟨i,e,n⟩
  .rw[e,hn];exact .inl ⟨_,rfl⟩
  .rw[e]
   dsimp only
   cases m with
   |zero=>rw[show st t p 0=p from rfl,e]at he;cases he
   |succ m=>
    by_cases c:(k i == x)=true
    .rw[Y22 c]
     exact .inr ⟨0,p.j,i,kXc _,rfl,e,n,by simpa using c,rfl⟩
    .rw[Y20 c]
     have l:t.slot (st t (t.advance p) m).j=.empty:=by rw[show st t (t.advance p) m=st t p (1+m)by rw[Qed];rfl,yXd];exact he
     rcases Qru hd k x m (t.advance p) fuel Om l (by rw[Qie];exact hn)with⟨j,g⟩ | ⟨m',j,i',a,b,c',d,f,g⟩
     .exact .inl ⟨j,g⟩
     .refine .inr ⟨m'+1,j,i',Om,?_,c',d,f,?_⟩
      .rw[b,show st t (t.advance p) m'=st t p (1+m')by rw[Qed];rfl,yXd]
      .rw[g,show st t (t.advance p) (m'+1)=st t p (m'+1+1)by rw[yXd (m'+1) 1,Qed t p 1 (m'+1)];rfl]
theorem Qdf{α:Type}(xs:Array α)(p:Nat)(x:α):(SetTable.insertAt xs p x).size=xs.size+1:=by
 rw[<-xX,(SetTable.insertAt_perm xs p x).length_eq,xX,Array.size_push]
theorem Qrv(t:SetTable)(j:Nat):(t.put j).1.place.size=t.place.size+1:=by
 show(SetTable.insertAt t.place _ j).size=_
 exact Qdf ..
theorem Qyf{t:SetTable}(hd:t.dummies=#[])(j:Nat):(t.put j).1.dummies=#[]:=by
 show(if SetTable.has t.dummies j then _ else t.dummies)=_
 rw[hd,Qrr,Y20 yX]
theorem Qln(n:Nat):∀(fuel k:Nat),3<=k->n<2 ^ (k+fuel)->∃k',3<=k'/\SetTable.sizeAbove.go n fuel (2 ^ k)=2 ^ k'/\n<2 ^ k'/\(2 ^ k'=2 ^ k\/2 ^ k'<=2*n)
 |0,k,h,hn=>⟨k,h,rfl,hn,.inl rfl⟩
 |fuel+1,k,h,hn=>by
  unfold SetTable.sizeAbove.go
  by_cases c:2 ^ k<=n
  .rw[Y22 c,<-kKe]
   obtain⟨k',a,b,d,e⟩:=Qln n fuel (k+1) Om (by rw[show k+1+fuel=k+(fuel+1)by lia];exact hn)
   exists k',a,b,d,.inr ?_
   rcases e with e | e
   .rw[e,kKe];lia
   .exact e
  .rw[Y20 c];exists k,h,rfl,Om,.inl rfl
theorem above(n:Nat)(h:n<2 ^ 60):∃k,3<=k/\SetTable.sizeAbove n=2 ^ k/\n<2 ^ k/\(2 ^ k=8\/2 ^ k<=2*n):=Qln n 64 3 Dc (Nat.lt_trans h Dc)
abbrev own(o:Array (Option Nat)):Nat:=(o.toList.filter (·.isSome)).length
theorem Qee{mask:Nat}{owner:Array (Option Nat)}(b:owner.size=mask+1):∀(n fuel i r e:Nat),n<fuel->(lp mask i r n).1=e->i<=mask->e<=mask->owner[e]?=some none->∃j,SetTable.layClean.free mask owner fuel i r=some j/\owner[j]?=some none
 |n,0,_,_,_,h,_,_,_,_=>Y21 h (kXe _)
 |n,fuel+1,i,r,e,h,he,hi,hem,ho=>by
  unfold SetTable.layClean.free
  cases c:(List.range (SetTable.runEnd mask i+1-i)).find? fun k=>(owner.getD (i+k) (some 0)).isNone with
  |some k=>
   exists i+k,rfl,?_
   have:=List.find?_some c
   rw[wK]at this
   cases g:owner[i+k]? with
   |none=>rw[g]at this;cases this
   |some v=>
    rw[g]at this
    cases v with
    |none=>rfl
    |some _=>cases this
  |none=>
   dsimp only
   cases n with
   |zero=>
    have a:i=e:=he
    subst a
    have:=List.find?_eq_none.mp c 0 (wZ.mpr (by unfold SetTable.runEnd;split<;>lia))
    rw[Nat.add_zero,wK,ho]at this
    exact Y21 rfl this
   |succ n=>
    refine Qee b n fuel _ _ e Om ?_ (Qyd r hi 1) hem ho
    rw[<-he,yXd,Qrn]
    rfl
theorem Qyg{o:Array (Option Nat)}{k:Nat}(h:o[j]?=some none):own (o.setIfInBounds j (some k))=own o+1:=by
 unfold own
 rw[Array.toList_setIfInBounds]
 rw[<-jJb]at h
 generalize o.toList=l at h
 induction l generalizing j with
 |nil=>simp at h
 |cons a l ih=>
  cases j with
  |zero=>
   simp at h;subst h
   rw[List.set_cons_zero,jYe rfl,jYf (by simp)];rfl
  |succ j=>
   rw[List.set_cons_succ]
   have:=ih (j:=j) (by simpa using h)
   cases a with
   |none=>rw[jYf (by simp),jYf (by simp)];exact this
   |some b=>rw[jYe rfl,jYe rfl,zZ,zZ,this]
theorem Quz{o:Array (Option Nat)}(b:o.size=mask+1)(h:own o<=mask):∃e,e<=mask/\o[e]?=some none:=by
 refine Classical.byContradiction fun c=>?_
 have:o.toList.filter (·.isSome)=o.toList:=yZe.mpr fun v hv=>by
  cases v with
  |some _=>rfl
  |none=>
   obtain⟨e,a⟩:=List.mem_iff_getElem?.mp hv
   have l:=(jW.mp a).1
   rw[xX,b]at l
   exact Y21 ⟨e,Om,by rw[<-jJb];exact a⟩ c
 unfold own at h
 rw[this,xX,b]at h
 lia
abbrev Qjr(mask:Nat):Option (Array (Option Nat)×Nat)->Int->Option (Array (Option Nat)×Nat):=fun acc h=>do
  let (owner,k) ← acc
  let j ← SetTable.layClean.free mask owner (SetTable.turns mask) (SetTable.bits h % (mask+1)) (SetTable.bits h)
  pure (owner.setIfInBounds j (some k),k+1)
theorem Qlo{mask k:Nat}(f:mask+1=2 ^ k):∀(hs:List Int) (o:Array (Option Nat)) (n:Nat),o.size=mask+1->own o=n->n+hs.length<=mask->(∀v,some v∈o.toList->v<n) ->
  ∃o',hs.foldl (Qjr mask) (some (o,n))=some (o',n+hs.length)/\o'.size=mask+1/\own o'=n+hs.length/\∀v,some v∈o'.toList->v<n+hs.length
 |[],o,n,h1,h2,_,h4=>⟨o,rfl,h1,h2,h4⟩
 |x::hs,o,n,h1,h2,h3,h4=>by
  rw[zZ]at h3
  obtain⟨e,h,q⟩:=Quz h1 Om
  obtain⟨m,t,p⟩:=Qrq (i:=SetTable.bits x % (mask+1)) f (yQc (Nat.mod_lt _ (kXc _))) (Qrp x) h
  obtain⟨j,s,l⟩:=Qee h1 m (SetTable.turns mask) _ _ e (by unfold SetTable.turns;lia) p (yQc (Nat.mod_lt _ (kXc _))) h q
  have r:Qjr mask (some (o,n)) x=some (o.setIfInBounds j (some n),n+1):=by
   show(SetTable.layClean.free mask o (SetTable.turns mask) (SetTable.bits x % (mask+1)) (SetTable.bits x)).bind (fun j=>some (o.setIfInBounds j (some n),n+1))=_
   rw[s];rfl
  rw[kXd,r]
  obtain⟨o',a,b,c,d⟩:=Qlo f hs (o.setIfInBounds j (some n)) (n+1) (by rw[Array.size_setIfInBounds];exact h1) (by rw[Qyg l,h2]) Om (fun v hv=>by
   rw[Array.toList_setIfInBounds]at hv
   rcases List.mem_or_eq_of_mem_set hv with g | g
   .have:=h4 v g;lia
   .cases g;lia)
  rw[zZ]
  exists o',by rw[a,show n+1+hs.length=n+(hs.length+1)by lia],b,by rw[c];lia,fun v hv=>by have:=d v hv;lia
theorem Qva(o:Array (Option Nat)):((List.range o.size).filterMap fun j=>(o.getD j none).map (j,·)).length=own o:=by
 unfold own
 obtain⟨l⟩:=o
 show((List.range l.length).filterMap fun j=>((Array.mk l).getD j none).map (j,·)).length=(l.filter (·.isSome)).length
 have:∀(l:List (Option Nat)) (g:Nat->Nat),((List.range l.length).filterMap fun j=>(l[j]?.getD none).map (g j,·)).length=(l.filter (·.isSome)).length:=by
  intro l
  induction l with
  |nil=>intro g;rfl
  |cons a l ih=>
   intro g
   rw[zZ,List.range_succ_eq_map]
   have e:=ih (fun j=>g (j+1))
   cases a with
   |none=>
    rw[List.filterMap_cons_none (by rfl),List.filterMap_map,jYf (by simp)]
    exact e
   |some b=>
    rw[List.filterMap_cons_some (b:=(g 0,b)) (by rfl),List.filterMap_map,jYe rfl,zZ,zZ]
    exact congrArg (· + 1) e
 have h:=this l id
 rw[<-h]
 have e:(fun j=>((Array.mk l).getD j none).map (j,·))=fun j=>(l[j]?.getD none).map (id j,·):=by
  funext j
  rw[wK,List.getElem?_toArray]
  rfl
 rw[e]
theorem Qyh{k:Nat}(q:mask+1=2 ^ k)(f m:Nat)(p l:Bool)(i:Array Int)(h:i.size<=mask) :
  ∃t order,SetTable.laid mask f m p l i=some (t,order)/\t.mask=mask/\t.place.size=i.size/\t.dummies=#[]/\order.size=i.size/\∀v∈order.toList,v<i.size:=by
 obtain⟨o,a,b,c,d⟩:=Qlo q i.toList (Array.replicate (mask+1) none) 0 (by simp) (by unfold own;simp) (by rw[xX];lia) (fun v hv=>by simp at hv)
 rw[xX,Nat.zero_add]at a c d
 have lc:SetTable.layClean mask i=some o:=by
  unfold SetTable.layClean
  rw[<-Array.foldl_toList]
  show(i.toList.foldl (Qjr mask) (some (Array.replicate (mask+1) none,0))).map (·.1)=_
  rw[a];rfl
 unfold SetTable.laid
 rw[lc]
 have n:=Qva o
 rw[b,c]at n
 exists 7,?_,rfl,?_,fun v hv=>?_
 .show(List.toArray _).size=_
  rw[kQ,jQ];exact n
 .rw[kQ,jQ];exact n
 .obtain⟨⟨j,r⟩,w,rfl⟩:=zW.mp hv
  obtain⟨s,_,e⟩:=kKf.mp w
  refine d r ?_
  rw[wK]at e
  cases g:o[s]? with
  |none=>rw[g]at e;cases e
  |some u=>
   rw[g]at e
   cases u with
   |none=>cases e
   |some u=>
    cases e
    rw[<-jJb]at g
    exact kX g
theorem Qlp{α:Type}(a:Array α):∀order:List Nat,(∀v∈order,v<a.size)->(order.filterMap (fun i=>a[i]?)).length=order.length
 |[],_=>rfl
 |v::order,h=>by
  have hv:=h v kY
  rw[List.filterMap_cons_some (b:=a[v]) (by rw[kZc hv]),zZ,zZ,Qlp a order fun u c=>h u (zY _ c)]
end Nb
namespace L2
open PySem PySem.Spec PyProof.Rows PySem.SeqAt
section
variable{prog:Program}
theorem IsRowKey.at{r:Rw2}(x:IsRowKey prog w h r a)(i:∀b o,h.get? b=some o->(∃items n,o.data=.seq items n)->h'.get? b=some o):IsRowKey prog w h' r a:=by
 obtain⟨o,items,n,p,v,m,l,g,s,hv,j,k,q,f,e,c,d⟩:=x
 exists o,items,n,p,v,i a o m ⟨_,_,g⟩,l,g,s,hv,j,k,q,i p j f ⟨_,_,c⟩,e,c,d
def Ents(prog:Program)(w:World)(h:Heap)(rs:List Rw2)(es:List (Int×Value)):Prop:=∀e∈es,∃r a,e=(Yp prog w r,.ref a)/\IsRowKey prog w h r a/\r∈rs
structure RSet(prog:Program)(w:World)(h:Heap)(a:Addr)(rs:List Rw2)(o:Obj)(es:Array (Int×Value))(ep:Nat)(t:SetTable):Prop where
 get:h.get? a=some o
 ex:o.ExactSet
 dat:o.data=.set es ep t
 ents:Ents prog w h rs es.toList
 size:es.size=rs.length
 ok:Nb.TOk t es.size
 low:t.mask<=8191
theorem Qbo{t:SetTable}(h:Nb.TOk t n):t.fits n=true:=by
 unfold SetTable.fits SetTable.fill
 rw[h.size,h.dum]
 have:=h.full
 simp
 lia
theorem Qrw(j:IsTupleKey (intKind prog w) s.heap ks a)(h:Q false s):qe prog w A (ofAClassStatement (n+1) (.ref a)) Q E s:=by
 have l:=j.typeIs
 obtain⟨o,i,m,p,_,k,q⟩:=j
 unfold ofAClassStatement
 refine jX (wpAny_typeOf l ?_)
 dsimp only
 rw[Y22 (show(("tuple":String) == "tuple")=true from rfl)]
 refine jX (jK ?_)
 simp only[jQe,yZ,if_false]
 refine jX (wpAny_seqItems p k ?_)
 dsimp only
 refine jX ?_
 rw[<-jKd]
 refine wpAny_forIn_list _ (fun b r g=>r.1=none/\g=s/\∀v∈b,carriedByValue v=true) _ ?_ ?_ _ _ ⟨rfl,rfl,q.byValue⟩
 .rintro v b r g ⟨f,rfl,c⟩
  have hv:=c v kY
  have e:ofAClassStatement n v=pure false:=by
   cases v<;>first | (unfold ofAClassStatement;rfl) | exact nomatch hv
  rw[e]
  refine jX (jK ?_)
  simp only[yZ,if_false]
  exact jK ⟨rfl,rfl,fun u d=>c u (zY _ d)⟩
 .rintro⟨x,t⟩ g ⟨f,rfl,_⟩
  simp only at f
  subst f
  exact jK h
theorem Qif{r:Rw2}(g:IsRowKey prog w s.heap r a)(h:Q false s):qe prog w A (ofAClassStatement 8 (.ref a)) Q E s:=by
 have k:=g.typeIs
 obtain⟨o,f,n,p,v,l,_,i,m,hv,t⟩:=g
 unfold ofAClassStatement
 refine jX (wpAny_typeOf k ?_)
 dsimp only
 rw[Y22 (show(("tuple":String) == "tuple")=true from rfl)]
 refine jX (jK ?_)
 simp only[jQe,yZ,if_false]
 refine jX (wpAny_seqItems l i ?_)
 dsimp only
 refine jX ?_
 rw[<-jKd,m]
 refine wpAny_forIn_list _ (fun b q c=>q.1=none/\c=s/\(b=[.ref p,v]\/b=[v]\/b=[])) _ ?_ ?_ _ _ ⟨rfl,rfl,.inl rfl⟩
 .rintro u b q c ⟨d,rfl,e | e | e⟩
  .cases e
   refine jX (Qrw t ?_)
   simp only[yZ,if_false]
   exact jK ⟨rfl,rfl,.inr (.inl trivial)⟩
  .cases e
   have j:=(intKind prog w).byValue _ _ hv
   have e:ofAClassStatement 7 v=pure false:=by
    cases v<;>first | (unfold ofAClassStatement;rfl) | exact nomatch j
   rw[e]
   refine jX (jK ?_)
   simp only[yZ,if_false]
   exact jK ⟨rfl,rfl,.inr (.inr trivial)⟩
  .cases e
 .rintro⟨y,x⟩ c ⟨d,rfl,_⟩
  simp only at d
  subst d
  exact jK h
theorem Qrx{r:Rw2}{x:Addr}{rs:List Rw2}(j:IsRowKey prog w s.heap r x)(ys:List Value)(m:∀y∈ys,∃r' a,y=.ref a/\IsRowKey prog w s.heap r' a)(h:Q false s):qe prog w A (searchCouldBeSeen (.ref x) ys) Q E s:=by
 unfold searchCouldBeSeen
 refine jX ?_
 refine wpAny_forIn_list _ (fun d q f=>q.1=none/\f=s/\∀y∈d,∃r' a,y=.ref a/\IsRowKey prog w s.heap r' a) _ ?_ ?_ _ _ ⟨rfl,rfl,m⟩
 .rintro y d q f ⟨i,rfl,e⟩
  obtain⟨r',a,rfl,k⟩:=e y kY
  have b:∀y∈d,∃r' a,y=.ref a/\IsRowKey prog w f.heap r' a:=fun u g=>e u (zY _ g)
  dsimp only
  by_cases c:(x == a)=true
  .rw[c]
   simp only[Bool.true_or,if_true]
   exact jK ⟨rfl,rfl,b⟩
  .have l:(x == a)=false:=by simpa using c
   rw[l]
   simp only[carriedByValue,Bool.false_or,Bool.and_self,yZ,if_false]
   refine jX (Ji j ?_)
   simp only[jQe,yZ,if_false]
   refine jX (Ji k ?_)
   simp only[jQe,yZ,if_false]
   refine jX (Qif j ?_)
   simp only[yZ,if_false]
   refine jX (Qif k ?_)
   simp only[yZ,if_false]
   exact jK ⟨rfl,rfl,b⟩
 .rintro⟨o,n⟩ f ⟨i,rfl,_⟩
  simp only at i
  subst i
  exact jK h
theorem Qvb{vs:List Value}(h:ItemsAre (intKind prog w) ks vs):∀v∈vs,∃k,(intKind prog w).is k v=true:=by
 induction h with
 |nil=>intro v hv;cases hv
 |cons a _ ih=>
  intro v hv
  rcases zK.mp hv with rfl | z
  .exact⟨_,a⟩
  .exact ih v z
theorem Qry{v:Value}{k:Int}(hv:(intKind prog w).is k v=true):hashByValue n v=pure true:=by
 have a:=(intKind prog w).byValue _ _ hv
 cases v<;>first | (cases n<;>(unfold hashByValue;rfl)) | exact nomatch hv
theorem Qyi(i:IsTupleKey (intKind prog w) s.heap ks a)(h:Q true s):qe prog w A (hashByValue (n+1) (.ref a)) Q E s:=by
 have l:=i.typeIs
 obtain⟨o,g,m,p,_,j,q⟩:=i
 unfold hashByValue
 refine jX (wpAny_specialOf l F.slot_tuple_hash.lookup ?_)
 refine jX (wpAny_seqItems p j ?_)
 refine jX ?_
 rw[kJc,<-jKd]
 refine wpAny_forIn_list _ (fun b r f=>r.1=none/\f=s/\∀v∈b,∃k,(intKind prog w).is k v=true) _ ?_ ?_ _ _ ⟨rfl,rfl,Qvb q⟩
 .rintro v b r f ⟨e,rfl,c⟩
  obtain⟨k,hv⟩:=c v kY
  rw[Qry hv]
  refine jX (jK ?_)
  simp only[jQe,yZ,if_false]
  exact jK ⟨rfl,rfl,fun u d=>c u (zY _ d)⟩
 .rintro⟨x,t⟩ f ⟨e,rfl,_⟩
  simp only at e
  subst e
  exact jK h
theorem Qyj{r:Rw2}(g:IsRowKey prog w s.heap r a)(h:Q true s):qe prog w A (hashByValue 8 (.ref a)) Q E s:=by
 have j:=g.typeIs
 obtain⟨o,f,n,p,v,k,_,i,l,hv,m⟩:=g
 unfold hashByValue
 refine jX (wpAny_specialOf j F.slot_tuple_hash.lookup ?_)
 refine jX (wpAny_seqItems k i ?_)
 refine jX ?_
 rw[kJc,<-jKd,l]
 refine wpAny_forIn_list _ (fun b q c=>q.1=none/\c=s/\(b=[.ref p,v]\/b=[v]\/b=[])) _ ?_ ?_ _ _ ⟨rfl,rfl,.inl rfl⟩
 .rintro u b q c ⟨d,rfl,e | e | e⟩
  .cases e
   refine jX (Qyi m ?_)
   simp only[jQe,yZ,if_false]
   exact jK ⟨rfl,rfl,.inr (.inl trivial)⟩
  .cases e
   rw[Qry hv]
   refine jX (jK ?_)
   simp only[jQe,yZ,if_false]
   exact jK ⟨rfl,rfl,.inr (.inr trivial)⟩
  .cases e
 .rintro⟨x,t⟩ c ⟨d,rfl,_⟩
  simp only at d
  subst d
  exact jK h
variable{d x:Addr}{r:Rw2}{rs:List Rw2}{o:Obj}{es:Array (Int×Value)}{ep:Nat}{t:SetTable}
theorem Qvc(h:Nb.TOk t n):t.gaveWay=false:=by
 obtain⟨k,a,e⟩:=h.pow
 unfold SetTable.gaveWay
 have:2 ^ k=2*2 ^ (k-1):=by rw[show k=k-1+1 by lia,kKe,Nat.add_sub_cancel];lia
 rw[show t.mask % 2=1 by lia]
 rfl
theorem Qjs{Q:SetFound->Shared->Prop}(N:A.units+1<cLine)(n:RSet prog w s.heap d rs o es ep t)(J:IsRowKey prog w s.heap r x)(M:r∉rs)(q:∀slot,Q (.free slot false) s) :
  ∀(m fuel:Nat) (p:Nb.Pr) (stand:Option Nb.Pr),m<fuel->m<10*SetTable.turns t.mask->stand.getD (t.probeStart (Yp prog w r))=p->t.slot (Nb.st t p m).j=.empty->p.dummy=none ->
   qe prog w A (setSearchFrom d (.ref x) (Yp prog w r) true fuel stand) Q E s:=by
 intro m
 induction m using Nat.strongRecOn with
 |ind m ih=>
  intro fuel p stand X S T I H
  cases fuel with
  |zero=>exact Y21 X (kXe _)
  |succ fuel=>
   unfold setSearchFrom
   refine jX (wpAny_setState_of n.get n.dat (Qbo n.ok) ?_)
   dsimp only
   rw[Qvc n.ok,Y20 yX]
   first | refine jX (jK ?_) | skip
   rw[T]
   unfold SetTable.probe
   have F:∀i,t.place[i]?=none\/∃e,es[i]?=some e:=fun i=>by
    by_cases c:i<es.size
    .exact .inr ⟨_,kZc c⟩
    .exact .inl (Array.getElem?_eq_none (by rw[n.ok.size];lia))
   rcases Nb.Qru n.ok.dum _ (Yp prog w r) m p (10*SetTable.turns t.mask) S I H with⟨j,g⟩ | ⟨u,j,i,a,b,c,K,f,g⟩
   .rw[g]
    dsimp only
    exact jK (q j)
   .rw[g]
    dsimp only
    obtain⟨e,C⟩:∃e,es[i]?=some e:=by
     rcases F i with z | z
     .rw[z]at K;cases K
     .exact z
    obtain⟨O,Y,rfl,G,D⟩:=n.ents e (by rw[<-jJb]at C;exact kX C)
    have h:qe prog w A (do
      let some (_,y):=es[i]? | unsupported "internal:set-entry"
      let k ← holding [y] (eqBool y (.ref x))
      let (es',_,t') ← setState d
      if true&&k then return .there none
      let some same:=t'.sameMemory t.moves t.mask | unsupported "set.changed-during-lookup:is-the-new-block-at-the-old-address"
      let v ← match (if same then t'.slot j else .empty)with
       |.live i'=>match es'[i']? with
        |some (_,y')=>do pure (if ← isSame y' y then some i' else none)
        |none=>pure none
       |_=>pure none
      match v with
      |none=>rule "set.search.anew";setSearchFrom d (.ref x) (Yp prog w r) true fuel none
      |some i'=>if k then return .there (some i')else setSearchFrom d (.ref x) (Yp prog w r) true fuel (some (Nb.st t p (u+1)))) Q E s:=by
     rw[C]
     dsimp only
     refine jX (Y30 (Kk N G J ?_))
     rw[zJ (fun z:O=r=>M (by rw[<-z];exact D))]
     refine jX (wpAny_setState_of n.get n.dat (Qbo n.ok) ?_)
     dsimp only
     have P:t.sameMemory t.moves t.mask=some true:=by unfold SetTable.sameMemory;rw[Y22 (by simp)]
     rw[P]
     simp only[Bool.and_false,yZ,if_false,if_true]
     rw[c]
     dsimp only
     rw[C]
     dsimp only
     refine jX (wpAny_isSame_ref_self ?_)
     simp only[if_true]
     refine jX (jK ?_)
     dsimp only
     refine ih (m-(u+1)) Om fuel _ _ Om Om rfl ?_ (by show(Nb.st t p (u+1)).dummy=none;rw[Nb.Qlm];exact H)
     show t.slot (Nb.st t (Nb.st t p (u+1)) (m-(u+1))).j=.empty
     rw[<-Nb.Qed,show u+1+(m-(u+1))=m by lia];exact I
    by_cases l:t.led=true
    .rw[l]
     simp only[jQe,yZ,if_false]
     first | exact h | exact jX (jK h)
    .have U:t.led=false:=by simpa using l
     rw[U]
     simp only[yZa,if_true]
     refine jX (Qrx (rs:=rs) J _ (fun y W=>?_) ?_)
     .obtain⟨e,B,rfl⟩:=zW.mp W
      rw[Array.toList_filter]at B
      obtain⟨R,L,rfl,V,_⟩:=n.ents e (jKa.mp B).1
      exists R,L,rfl,V
     .simp only[yZ,if_false]
      first | exact h | exact jX (jK h)
theorem Ents.snoc{h h':Heap}{l l':List (Int×Value)}(he:Ents prog w h rs l)(d:IsRowKey prog w h r x)(p:List.Perm l' (l++[(Yp prog w r,.ref x)]))(c:∀b o,h.get? b=some o->(∃items n,o.data=.seq items n)->h'.get? b=some o):Ents prog w h' (rs++[r]) l':=fun e z=>by
 rcases xW.mp (p.mem_iff.mp z)with y | y
 .obtain⟨g,a,f,k,m⟩:=he e y
  exists g,a,f,k.at c,kQa _ m
 .rw[kW]at y
  exists r,x,y,d.at c,wY _ (kW.mpr rfl)
theorem Qgb(a:h.get? d=some o)(hd:o.data=.set es ep t)(c:Heap.SameBut d h h'):∀b ob,h.get? b=some ob->(∃items n,ob.data=.seq items n)->h'.get? b=some ob:=fun b ob e ⟨items,n,z⟩=>by
 have ne:b≠d:=by
  rintro rfl
  rw[a]at e;cases e
  rw[hd]at z;cases z
 rw[c.2 b ne];exact e
theorem Qvd{Q:Unit->Shared->Prop}{wanted:Nat}(n:s.heap.get? d=some o)(p:o.ExactSet)(hd:o.data=.set es ep t)(hsz:t.place.size=es.size)(y:t.dummies=#[])(M:es.size<=t.mask)(U:wanted=es.size*4)(hz:es.size<=2000)(V:0<es.size)
  (he:Ents prog w s.heap rs es.toList) (K:es.size=rs.length) (q:∀h' o' es' ep' t',Heap.SameBut d s.heap h'->RSet prog w h' d rs o' es' ep' t'->Q () { s with heap:=h' }):qe prog w A (setRelay d wanted) Q E s:=by
 obtain⟨k,R,G,T,bk⟩:=Nb.above wanted Om
 have u:k<=13:=by
  rcases bk with e | e
  .exact Nat.le_of_not_lt fun c=>by
    have:=yZb (show 0<2 by decide) (show 14<=k from c)
    lia
  .exact Nat.le_of_not_lt fun c=>by
    have:=yZb (show 0<2 by decide) (show 14<=k from c)
    lia
 have L:2 ^ k<=8192:=yZb (show 0<2 by decide) u
 have S:0<2 ^ k:=Nat.pow_pos Dc
 obtain⟨t',b,O,l,v,C,B,D⟩:=Nb.Qyh (mask:=2 ^ k-1) (k:=k) Om t.finger (t.movedTo (2 ^ k-1)) t.led t.plain (es.map (·.1)) (by rw[Array.size_map];lia)
 rw[Array.size_map]at v B D
 have I:t.relaid (es.map (·.1)) wanted=some (t',b):=by
  unfold SetTable.relaid
  rw[G];exact O
 have f:(b.filterMap (fun i=>es[i]?)).size=es.size:=by
  rw[<-xX,Array.toList_filterMap,Nb.Qlp es _ D,xX,B]
 have j:t.fits es.size=true:=by
  unfold SetTable.fits SetTable.fill
  rw[hsz,y]
  simp
  lia
 have x:t'.fits (b.filterMap (fun i=>es[i]?)).size=true:=by
  unfold SetTable.fits SetTable.fill
  rw[v,C,f,l]
  simp
  lia
 exists"z"
 unfold setRelay
 refine jX (wpAny_setState_of n hd j ?_)
 dsimp only
 rw[Y20 (show ¬SetTable.sizeAbove wanted > sizeLine by rw[G];lia)]
 first | refine jX (jK ?_) | skip
 rw[I]
 refine jX (wpAny_of_eq (a:=(b.filterMap (fun i=>es[i]?),t')) ?_ ?_)
 .show(if ((b.filterMap (fun i=>es[i]?)).size != es.size)=true then _ else _)=_
  rw[f,Y20 (by simp)]
 .dsimp only
  refine wpAny_storeSet_of n hd ?_ (by rw[f];lia)
  have g:=Heap.SameBut.update s.heap d (Obj.putSet (b.filterMap (fun i=>es[i]?)) t')
  have P:(s.heap.update d (Obj.putSet (b.filterMap (fun i=>es[i]?)) t')).get? d=some { o with data:=.set (b.filterMap (fun i=>es[i]?)) (ep+1) t' }:=by
   have:=jJa (Obj.putSet (b.filterMap (fun i=>es[i]?)) t') n (by rw[putSet_of _ t' hd];rfl)
   rw[putSet_of _ t' hd]at this;exact this
  refine q _ _ _ _ _ g ⟨P,p,rfl,fun e z=>?_,by rw[f];exact K,⟨by rw[v,f],C,⟨k,R,by rw[l];lia⟩,by rw[f,l];lia⟩,by rw[l];lia⟩
  rw[Array.toList_filterMap]at z
  obtain⟨i,_,F⟩:=kKf.mp z
  rw[<-jJb]at F
  obtain⟨H,a,J,N,m⟩:=he e (kX F)
  exists H,a,J,N.at (Qgb n hd g),m
theorem Qyk(M:A.units+1<cLine)(b:RSet prog w s.heap d rs o es ep t)(z:IsRowKey prog w s.heap r x)(L:r∉rs)(S:rs.length<2000)
  (q:∀h' o' es' ep' t',Heap.SameBut d s.heap h'->RSet prog w h' d (rs++[r]) o' es' ep' t'->Q true { s with heap:=h' }):qe prog w A (setAddHashed d (.ref x) (Yp prog w r)) Q E s:=by
 have F:=Qbo b.ok
 exists"z"
 have v:=b.size
 have H:=b.ok.full
 unfold setAddHashed setAddHashedIn
 refine Y30 (jX (wpAny_setState_of b.get b.dat F ?_))
 dsimp only
 rw[Y20 (show ¬byScan (.ref x) es=true by unfold byScan;simp[Value.scannable])]
 obtain⟨m,J,N⟩:=Nb.Qjq b.ok (Yp prog w r)
 have O:=b.low
 unfold setSearch
 refine jX (Qjs M b z L (fun a=>?_) m 100000 _ none (by unfold SetTable.turns at J;lia) J rfl N rfl)
 dsimp only
 refine jX (wpAny_setState_of b.get b.dat F ?_)
 dsimp only
 have G:List.Perm (SetTable.insertAt es (t.put a).2 (Yp prog w r,Value.ref x)).toList (es.toList++[(Yp prog w r,.ref x)]):=by
  have:=SetTable.insertAt_perm es (t.put a).2 (Yp prog w r,Value.ref x)
  rw[Array.toList_push]at this;exact this
 have j:=Nb.Qdf es (t.put a).2 (Yp prog w r,Value.ref x)
 generalize SetTable.insertAt es (t.put a).2 (Yp prog w r,Value.ref x)=es1 at G j⊢
 have f:=Nb.Qrv t a
 have i:=Nb.Qyf b.ok.dum a
 have g:(t.put a).1.mask=t.mask:=rfl
 generalize (t.put a).1=t1 at f i g⊢
 rw[b.ok.size]at f
 have fin:∀e:SetTable,e.place=t1.place->e.dummies=t1.dummies->e.mask=t1.mask->qe prog w A (do
   storeSet d es1 e
   if !false&&e.tooFull then setRelay d (SetTable.grown (es.size+1))
   return true) Q E s:=by
  intro e y B C
  have l:=Heap.SameBut.update s.heap d (Obj.putSet es1 e)
  have I:(s.heap.update d (Obj.putSet es1 e)).get? d=some { o with data:=.set es1 (ep+1) e }:=by
   have:=jJa (Obj.putSet es1 e) b.get (by rw[putSet_of _ e b.dat];rfl)
   rw[putSet_of _ e b.dat]at this;exact this
  have p:Ents prog w (s.heap.update d (Obj.putSet es1 e)) (rs++[r]) es1.toList:=b.ents.snoc z G (Qgb b.get b.dat l)
  refine jX (wpAny_storeSet_of b.get b.dat ?_ Om)
  by_cases c:e.tooFull=true
  .rw[c]
   simp only[yZa,Bool.and_self,if_true]
   refine jX (Qvd (rs:=rs++[r]) (s:={ s with heap:=s.heap.update d (Obj.putSet es1 e) }) I b.ex rfl (by rw[y,f,j]) (by rw[B,i]) (by rw[C,g,j];lia) (by unfold SetTable.grown;rw[Y20 Om,j]) Om Om p (by rw[yQ,j,v];rfl) fun h' o' es' ep' t' u D=>?_)
   exact jK (q _ _ _ _ _ (l.trans u) D)
  .have n:e.tooFull=false:=by simpa using c
   rw[n]
   simp only[Bool.and_false,yZ,if_false]
   have K:es1.size*5<e.mask*3:=by
    unfold SetTable.tooFull SetTable.fill at n
    rw[y,B,f,i]at n
    simp at n
    rw[j];exact n
   obtain⟨k,P,R⟩:=b.ok.pow
   have:=q _ _ _ _ _ l ⟨I,b.ex,rfl,p,by rw[yQ,j,v];rfl,⟨by rw[y,f,j],by rw[B,i],⟨k,P,by rw[C,g];exact R⟩,K⟩,by rw[C,g];exact O⟩
   first | exact jK this | exact jX (jK (jK this))
 by_cases c:t1.plain=true
 .rw[c]
  simp only[if_true]
  refine jX (Qyj z ?_)
  simp only[if_true]
  exact fin t1 rfl rfl rfl
 .have n:t1.plain=false:=by simpa using c
  rw[n]
  simp only[yZ,if_false]
  refine jX (jK ?_)
  simp only[if_true]
  exact fin t1 rfl rfl rfl
end
section
variable{prog:Program}{R:Result->Shared->Prop}{I:Addr}{wr:List Addr}{G:Array GenState->Array GenState->Prop}{P:Nat->Value->Prop}{St:Nat->Shared->Prop}
def RSetE(prog:Program)(w:World)(h:Heap)(a:Addr)(rs:List Rw2):Prop:=∃o es ep t,RSet prog w h a rs o es ep t
theorem RSetE.at{rs:List Rw2}(x:RSetE prog w h a rs)(d:∀b o,h.get? b=some o->(b=a\/∃items n,o.data=.seq items n)->h'.get? b=some o):RSetE prog w h' a rs :=
 let ⟨o,es,ep,t,ho,hx,hd,he,hz,hk,hl⟩:=x
 ⟨o,es,ep,t,d a o ho (.inl rfl),hx,hd,fun e m=>let ⟨r,b,e',k,i⟩:=he e m;⟨r,b,e',k.at fun c o e z=>d c o e (.inr z),i⟩,hz,hk,hl⟩
theorem Qrz(W:WalksS prog w A.in1 I fp wr G n P St)(S:Addr)(x:S∉fp)(hu:A.units+3<cLine)(rs:List Rw2)(Y:n=rs.length)(U:rs.Nodup)(hz:rs.length<=2000)(y:∀(s:Shared) b o,b∈wr->s.heap.get? b=some o->∀i,St i s->∀items m,o.data≠.seq items m)
  (keys:Nat->Addr) (E:∀i v,P i v->v=.ref (keys i)) :
  ∀(k i:Nat) (s:Shared),n-i=k->i<=n->St i s->RSetE prog w s.heap S (rs.take i)->(∀j r,rs[j]?=some r->IsRowKey prog w s.heap r (keys j)) ->
   (∀s',Moved (S::wr) G s s'->RSetE prog w s'.heap S rs->R (.ok (.ret .none)) s') ->
   codeAny (model prog w) A (.builtin "set.update.loop" ⟨[.ref S,.ref I],[]⟩) R s:=by
 have u:S∉wr:=fun h=>x (W.sub _ h)
 have f:∀b∈wr,b∈S::wr:=fun b a=>zY _ a
 intro k
 induction k with
 |zero=>
  intro i s hk Z c L X N
  have M:i=n:=Om
  subst M
  refine Y28 F.entry_set_update_loop ?_
  rw[Around.under_plainId F.plain_set_update_loop _]
  show wpAny _ A.in1 (pyNext (.ref I) >>= _) _ _ s
  refine jX (W.done s _ _ c fun s' K=>?_)
  show wpAny _ A.in1 (ret Value.none) _ _ s'
  rw[Y,wV]at L
  refine jK (N s' (K.mono f) (L.at fun b o e z=>K.heap b o (fun a=>?_) e))
  rcases z with rfl | ⟨items,m,z⟩
  .exact u a
  .exact y s b o a e _ c items m z
 |succ k ih=>
  intro i s hk Z c L X N
  have C:i<n:=Om
  refine Y28 F.entry_set_update_loop ?_
  rw[Around.under_plainId F.plain_set_update_loop _]
  show wpAny _ A.in1 (pyNext (.ref I) >>= _) _ _ s
  refine jX (W.item i s _ _ C c fun v s' hP q K=>?_)
  obtain rfl:=E i v hP
  have old:∀b o,s.heap.get? b=some o->(b=S\/∃items n,o.data=.seq items n)->s'.heap.get? b=some o:=fun b o e z=>K.heap b o (fun a=>by
   rcases z with rfl | ⟨items,m,z⟩
   .exact u a
   .exact y s b o a e _ c items m z) e
  obtain⟨o,es,ep,t,l⟩:=L.at old
  have J:∀j r,rs[j]?=some r->IsRowKey prog w s'.heap r (keys j):=fun j r e=>(X j r e).at fun b o e z=>old b o e (.inr z)
  obtain⟨r,Q⟩:∃r,rs[i]?=some r:=⟨_,gE Om⟩
  have D:=J i r Q
  have V:r∉rs.take i:=fun z=>by
   obtain⟨j,T⟩:=List.mem_iff_getElem?.mp z
   have lj:=(jW.mp T).1
   rw[yY]at lj
   rw[List.getElem?_take,Y22 Om]at T
   have:=(List.getElem?_inj Om U).mp (T.trans Q.symm)
   lia
  show wpAny _ A.in1 (holding [Value.ref (keys i)] (setAdd S (.ref (keys i))) >>= _) _ _ s'
  refine jX (Y30 ?_)
  unfold setAdd
  refine Y30 ?_
  refine jX (Kj (by show A.units+1+1<cLine;lia) D ?_)
  refine Qyk (s:={ s' with toks:=s'.toks+(r.1.length+3) }) (by show A.units+1+1<cLine;lia) l D V (by rw[yY];lia) fun h' o' ab aa t' g H=>?_
  have e1:rs.take i++[r]=rs.take (i+1):=by rw[List.take_add_one,Q];rfl
  rw[e1]at H
  have fr:=Qgb (d:=S) (h:=s'.heap) l.get l.dat g
  refine jK ⟨kZf F.plain_set_update_loop _,ih (i+1) _ Om C (W.frame _ s' _ _ q (by show _<=s'.toks+_;lia) fun b a o e=>?_) ⟨_,_,_,_,H⟩ (fun j r e=>(J j r e).at fr) fun O p B=>?_⟩
  .rw[g.2 b (fun h:b=S=>x (by rw[<-h];exact a))];exact e
  .refine N O (Moved.trans W.gtrans ((K.mono f).then_heap (by show _<=s'.toks+_;lia) fun b o a e=>?_) p) B
   rw[g.2 b (fun h:b=S=>a (by rw[h];exact kY))];exact e
end
section
variable{prog:Program}
abbrev newS(led:Bool):Obj:={ cls:=.type "set",dict:=none,data:=.set #[] 0 (.fresh 0 0 led) }
theorem Qgc{its:List Addr}{rs:List Rw2}{Q:VP}(hh:A.handled=none)(hu:A.units+6<cLine)(hl:s.heap.IsList l (its.map Value.ref).toArray)(hk:∀(j:Nat) (r:Rw2),rs[j]?=some r->∃a:Addr,its[j]?=some a/\IsRowKey prog w s.heap r a)(q:its.length=rs.length)(X:rs.Nodup)(hz:rs.length<=2000)
  (h:∀(h':Heap) (tk:Nat),RSetE prog w h' (qa s) rs->(∀b o,b<(qa s)->s.heap.get? b=some o->h'.get? b=some o)->Q (.ref (qa s)) { s with heap:=h',toks:=tk }) :
  qe prog w A (call (.type "set") [.ref l]) Q E s:=by
 obtain⟨c,tl,aa⟩:=F.called_set.mro
 have m0:=F.called_set.made
 have m1:=F.called_set.sub
 refine wpAny_call (codeAny_of_tree ?_)
 show wpAny _ _ (callAny (.type "set") _) _ _ _
 refine jK ⟨Code.quiet_builtin _ Dk,Y28 F.entry_type_call ?_⟩
 rw[Around.under_plain (weight_type_call_type "set" [.ref l] []) rfl]
 have m2:=F.called_set.notType
 have m3:=F.called_set.canCreate
 have m4:=F.typeCall_set_1 (.ref l)
 repeat (any_goals (first | assumption | wp_step))
 refine codeAny_mono (code_set_new_1 (.ref l) (E:=E) (Q₁:=fun b t=>∃f:Bool,b=.ref (qa s)/\t={ s with heap:=s.heap.push (newS f) }) fun f=>⟨f,rfl,rfl⟩) fun r t P=>?_
 cases r with
 |error e=>exact P
 |ok fl=>
  cases fl with
  |ret obj=>
   obtain⟨f,rfl,rfl⟩:=P
   have hS:(s.heap.push (newS f)).get? (qa s)=some (newS f):=yJ _ rfl
   have hT:Shared.TypeIs { s with heap:=s.heap.push (newS f) } (.ref (qa s)) "set":=⟨_,hS,rfl⟩
   have m5:=F.called_set.init.lookup
   have m6:=F.called_set.init.bind (.ref (qa s))
   repeat (any_goals (first | assumption | wp_step))
   refine codeAny_mono (codeAny_call_builtin (R:=wants (fun r p=>r=.none/\∃h' tk,p={ s with heap:=h',toks:=tk }/\RSetE prog w h' (qa s) rs/\(∀b o,b<(qa s)->s.heap.get? b=some o->h'.get? b=some o)) E) F.called_set.init.plain F.entry_set_init (check_set_init_1 hT ?_)) fun D p k=>?_
   .obtain⟨ol,I,J,Z,H⟩:=hl
    obtain⟨ab,x,Y,n⟩:=ol
    simp only at J H
    subst J;subst H
    have G:(s.heap.push (newS f)).get? l=some { cls:=.type "list",dict:=x,data:=.seq (its.map Value.ref).toArray Z,slots:=n }:=jV _ I
    have m7:=F.sub_list_set
    have m8:=F.sub_list_frozenset
    have m9:(Value.type "list" == Value.type "dict")=false:=Dc
    have y:(s.heap.push (newS f)).IsList l (its.map Value.ref).toArray:=⟨_,G,rfl,Z,rfl⟩
    unfold Builtin.«set.__init__» noKeywords Builtin.Frozenset.updateFrom
    generalize T:pyIter=PI
    wp_walk
    subst T
    refine wpAny_pyIter_list y ?_
    refine jX (wpAny_runValue ?_)
    have C:l<(qa s):=yK I
    have M:l≠(s.heap.push (newS f)).objs.size:=by rw[jZc];exact zV (kQb C)
    have U:(qa s)∉[(s.heap.push (newS f)).objs.size,l]:=by
     rw[jZc]
     intro z
     simp only[zK,List.not_mem_nil,or_false]at z
     rcases z with z | z
     .exact zV (Nat.lt_succ_self _) z
     .exact kKc C z
    refine Qrz ((Walks.list (show A.in1.in1.in1.handled=none by simp[hh]) _ l M (its.map Value.ref).toArray).toS) (qa s) U ?hu rs (by simp[q]) X hz ?hwr (fun i=>its.getD i 0) ?hval (rs.length-0) 0 _ (by simp[q]) (jQf _)
     ⟨⟨_,yJ _ rfl,rfl,rfl⟩,(y.push _)⟩ ?hS0 ?hK ?hR
    case hu=>show A.units+1+1+3<cLine;lia
    case hwr=>
     intro s2 b o B e i O V m z
     rw[kW]at B
     subst B
     obtain⟨⟨o2,e2,_,d2⟩,_⟩:=O
     rw[e]at e2;cases e2
     rw[z]at d2;cases d2
    case hval=>
     intro i v hv
     have e:((its.map Value.ref)[i]?:Option Value)=some v:=by simpa using hv
     rw[jY]at e
     cases g:its[i]? with
     |none=>rw[g]at e;cases e
     |some a=>rw[g]at e;cases e;rw[jJ,g];rfl
    case hS0=>
     have K:((s.heap.push (newS f)).push { cls:=.type "list_iterator",data:=.fields #[.ref l,.int 0 0] }).get? (qa s)=some (newS f):=jV _ hS
     have tk:Nb.TOk (.fresh 0 0 f) 0:=⟨rfl,rfl,⟨3,jZ _,rfl⟩,by show 0<21;decide⟩
     exists newS f,#[],0,.fresh 0 0 f,{ get:=K,ex:=⟨rfl,rfl,rfl⟩,dat:=rfl,ents:=(fun e z=>by simp at z),size:=rfl,ok:=tk,low:=(by show 7<=8191;decide) }
    case hK=>
     intro j r e
     obtain⟨a,ea,ka⟩:=hk j r e
     rw[jJ,ea]
     exact ka.at fun b o e _=>jV _ (jV _ e)
    case hR=>
     intro s' L u
     obtain⟨h',g',d',W,S⟩:=s'
     have eg:g'=s.gens:=L.gens
     have ed:d'=s.drawn:=L.drawn
     have eo:S=s.os:=L.os
     subst eg;subst ed;subst eo
     show wpAny _ _ _ _ _ _
     refine jK ?_
     show wpAny _ _ (ret Value.none) _ _ _
     refine jK ⟨rfl,h',W,rfl,u,fun b o B e=>L.heap b o (fun z=>?_) (jV _ (jV _ e))⟩
     simp only[zK,List.not_mem_nil,or_false]at z
     rcases z with z | z
     .exact zV B z
     .rw[jZc]at z;exact zV (kQb B) z
   .cases D with
    |error e=>exact k
    |ok fl₂=>
     cases fl₂ with
     |ret r=>
      obtain⟨rfl,h',tk,rfl,u,N⟩:=k
      repeat (any_goals (first | assumption | wp_step))
      exact h _ _ u N
     |_=>exact k.elim
  |_=>exact P.elim
end
theorem Qsa:∀{ws:List V} {rs:List Rw2} {us:List Value},Nb.RowsAre K H ws rs->Vals ws us->∃its:List Addr,us=its.map Value.ref/\its.length=rs.length/\∀(j:Nat) (r:Rw2),rs[j]?=some r->∃a:Addr,its[j]?=some a/\Nb.RowAt K H a r:=by
 intro ws rs us h
 induction h generalizing us with
 |nil=>intro v;cases v;exists [],rfl,rfl,fun j r e=>nomatch e
 |cons a _ ih=>
  intro v
  cases v with
  |cons b c=>
   obtain⟨its,rfl,f,d⟩:=ih c
   obtain⟨t,rfl,g⟩:=a
   cases b
   exists t::its,rfl,by rw[zZ,zZ,f],fun j r e=>?_
   cases j with
   |zero=>cases e;exists t,rfl,g
   |succ j=>exact d j r e
theorem Qyl:Qri:=by
 intro X y w m s K H N O Q I B h
 obtain⟨l,P,n,rfl,z,v,g,J,q⟩:=h
 obtain⟨u,rfl,D⟩:=B.one
 cases D
 obtain⟨i,r,x,_⟩:=I.list z
 obtain⟨F,rfl,C,E⟩:=Qsa v r
 refine Qgc (I.ok.hd y) w x.isList (fun j r e=>?_) C g J fun L M c A=>?_
 .obtain⟨a,G,p⟩:=E j r e
  exists a,G,Qfs I p
 .refine⟨.ref _,_,I.laid (o:=RSo (qa s) n.length) (fun b o e=>A b o (yK e) e) (jZ _) ?_,rfl,q _ (I.hok.fresh (jZ _))⟩
  obtain⟨o,f,d,t,c⟩:=c
  have sz:=c.size
  exists ⟨o,f,d,t,c.get,c.ex,c.dat,sz,Qbo c.ok,Om⟩,⟨o,c.get⟩,fun h1 h2 ⟨o,f,d,t,a,b⟩ k=>⟨o,f,d,t,k o a,b⟩
end L2
namespace Nb
open PySem L2
def htop(i:Nat):Stmt:=PySem.Challenge.pw_nonebetter_k32_whole_shorter_papers.main.body.getD i (.Pass ⟨0,0,0,0⟩)
abbrev fO(a b:Str)(s:Stmt)(k:Addr)(v:Value)(r:Addr):Obj:=.mk (.type "function") none (.func (.mk a b (L2.Qu s) (.stmts (L2.Qs s)) (L2.Qf s) k [] .none .none .none v none (.ref r) .none 0)) #[]
abbrev cO(a:Str)(i:Tok)(b:Str)(j k:Tok)(l m n o p:Int)(u r:Addr)(v1 v2 v3 v4:Value)(x y:Int)(z:Tok):Obj:=.mk (.type "code") none (.fields #[.str a i,.str b j,.str "/claim/cut.py" k,.int l 0,.int m 0,.int n 0,.int o 0,.int p 0,.ref u,.bool Bool.true,.int 181 0,.ref r,v1,v2,v3,v4,.int x 0,.int y 0,.str "/claim/cut.py" z]) #[]
abbrev tO(v:Array Value):Obj:=.mk (.type "tuple") none (.seq v) #[]
abbrev kO(P:Params)(x:Str)(i:Tok)(v:Value):DictEntry:=.mk (PyData.keyHash P x) (.str x i) v
local macro_rules|`(term|q3 $i $x)=>`(term|$x)|`(term|q3 $i $n:num $x $b*)=>`(term|bif beq $i $n then $x else q3 $i $b*)
local macro_rules|`(term|q4 $a $n $m)=>`(term|fO $a $a (htop $n) 3 (.str "law_nonebetter_k32_whole_shorter_papers" 554) $m)
local macro_rules|`(term|q5 $a $n $m $b*)=>`(term|cO $a $n $a $m $b*)
def hob0(i:Nat)(P:Params):Obj:=q3 i 3 (.mk (.type "dict") none (.dict #[kO P "__name__" 165 (.str "law_nonebetter_k32_whole_shorter_papers" 554),kO P "__doc__" 166 .none,kO P "__package__" 167 .none,kO P "__loader__" 168 (.builtin "__main__.__loader__#opaque"),kO P "__spec__" 169 .none,kO P "__annotations__" 170 (.ref 6),kO P "__builtins__" 171 (.ref 4),kO P "__file__" 173 (.str "/claim/cut.py" 172),kO P "__cached__" 174 .none,kO P "is_whole" 195 (.ref 21),kO P "is_number_of" 203 (.ref 28),kO P "is_pair" 210 (.ref 35),kO P "single_row" 223 (.ref 42),kO P "better_row" 229 (.ref 47),kO P "sum_row" 235 (.ref 52),kO P "share_row" 241 (.ref 57),kO P "shut_row" 253 (.ref 64),kO P "without" 261 (.ref 71),kO P "either_row" 270 (.ref 78),kO P "like_row" 280 (.ref 85),kO P "named_by" 286 (.ref 90),kO P "renumbered" 292 (.ref 95),kO P "most_of" 307 (.ref 102),kO P "turned" 318 (.ref 109),kO P "turn_keeps" 324 (.ref 114),kO P "is_ahead" 334 (.ref 121),kO P "is_part" 342 (.ref 128),kO P "is_hold" 350 (.ref 135),kO P "are_holds" 356 (.ref 140),kO P "is_turn" 362 (.ref 145),kO P "told_given" 372 (.ref 152),kO P "told_low" 383 (.ref 159),kO P "told_high" 394 (.ref 166),kO P "told_better" 404 (.ref 173),kO P "told_sum" 410 (.ref 178),kO P "told_share" 416 (.ref 183),kO P "told_shut" 429 (.ref 190),kO P "told_either" 442 (.ref 197),kO P "told_like" 453 (.ref 204),kO P "LENGTHS" 481 (.ref 205),kO P "TELLERS" 500 (.ref 206),kO P "row_told" 511 (.ref 213),kO P "rows_told" 523 (.ref 220),kO P "rests_on" 535 (.ref 227),kO P "trimmed" 541 (.ref 232),kO P "merged" 547 (.ref 237),kO P "shorter" 553 (.ref 242),kO P "_law_mix" 564 (.ref 249),kO P "_law_cell_at" 572 (.ref 256),kO P "_law_left" 580 (.ref 263),kO P "_law_draw" 589 (.ref 270),kO P "_law_problem" 595 (.ref 275),kO P "_law_holds" 607 (.ref 282),kO P "_law_copy" 614 (.ref 289),kO P "_law_is" 622 (.ref 296),kO P "_law_simple" 628 (.ref 301),kO P "_law_summed" 634 (.ref 306),kO P "_law_shared" 640 (.ref 311),kO P "_law_most" 646 (.ref 316),kO P "_law_shut_out" 652 (.ref 321),kO P "_law_shut" 658 (.ref 326),kO P "_law_either" 668 (.ref 333),kO P "_law_like" 674 (.ref 338),kO P "_law_row" 684 (.ref 345),kO P "_law_told" 696 (.ref 352),kO P "_law_drawn" 714 (.ref 359),kO P "_law_turn" 725 (.ref 366),kO P "_law_paper" 739 (.ref 373),kO P "_law_rests" 745 (.ref 378),kO P "_law_long" 753 (.ref 385),kO P "law" 770 (.ref 392)] 71) #[]) 20 (q5 "is_whole" 189 190 191 2 1 0 0 3 15 16 .none (.ref 17) (.ref 18) (.ref 19) 193 2 194) 21 (fO "is_whole" "is_whole" (htop 1) 3 (.str "nonebetter.kinds" 187) 20) 27 (q5 "is_number_of" 196 197 198 4 2 0 0 3 22 23 .none (.ref 24) (.ref 25) (.ref 26) 201 4 202) (fO "is_number_of" "is_number_of" (htop 2) 3 (.str "nonebetter.kinds" 187) 27)
def hob1(i:Nat)(P:Params):Obj:=q3 i 34 (q5 "is_pair" 204 205 206 6 1 0 0 3 29 30 .none (.ref 31) (.ref 32) (.ref 33) 208 6 209) 35 (fO "is_pair" "is_pair" (htop 3) 3 (.str "nonebetter.kinds" 187) 34) 41 (q5 "single_row" 213 214 215 9 4 0 0 3 36 37 .none (.ref 38) (.ref 39) (.ref 40) 221 9 222) 42 (fO "single_row" "single_row" (htop 5) 3 (.str "nonebetter.lines" 211) 41) (q5 "better_row" 224 225 226 13 2 0 0 3 43 44 .none .none .none (.ref 45) 227 13 228)
def hob2(i:Nat)(P:Params):Obj:=q3 i 47 (fO "better_row" "better_row" (htop 6) 3 (.str "nonebetter.lines" 211) 46) 51 (q5 "sum_row" 230 231 232 15 2 0 0 3 48 49 .none .none .none (.ref 50) 233 15 234) 52 (fO "sum_row" "sum_row" (htop 7) 3 (.str "nonebetter.lines" 211) 51) 56 (q5 "share_row" 236 237 238 22 2 0 0 3 53 54 .none .none .none (.ref 55) 239 22 240) (fO "share_row" "share_row" (htop 8) 3 (.str "nonebetter.lines" 211) 56)
def hob3(i:Nat)(P:Params):Obj:=q3 i 63 (q5 "shut_row" 242 243 244 24 2 0 0 3 58 59 .none (.ref 60) (.ref 61) (.ref 62) 251 24 252) 64 (fO "shut_row" "shut_row" (htop 9) 3 (.str "nonebetter.lines" 211) 63) 70 (q5 "without" 254 255 256 31 2 0 0 3 65 66 .none (.ref 67) (.ref 68) (.ref 69) 259 31 260) 71 (fO "without" "without" (htop 10) 3 (.str "nonebetter.lines" 211) 70) (q5 "either_row" 262 263 264 33 3 0 0 3 72 73 .none (.ref 74) (.ref 75) (.ref 76) 268 33 269)
def hob4(i:Nat)(P:Params):Obj:=q3 i 78 (fO "either_row" "either_row" (htop 11) 3 (.str "nonebetter.lines" 211) 77) 84 (q5 "like_row" 271 272 273 35 1 0 0 3 79 80 .none (.ref 81) (.ref 82) (.ref 83) 278 35 279) 85 (fO "like_row" "like_row" (htop 12) 3 (.str "nonebetter.lines" 211) 84) 89 (q5 "named_by" 281 282 283 43 1 0 0 3 86 87 .none .none .none (.ref 88) 284 43 285) (fO "named_by" "named_by" (htop 13) 3 (.str "nonebetter.lines" 211) 89)
def hob5(i:Nat)(P:Params):Obj:=q3 i 94 (q5 "renumbered" 287 288 289 49 2 0 0 3 91 92 .none .none .none (.ref 93) 290 49 291) 95 (fO "renumbered" "renumbered" (htop 14) 3 (.str "nonebetter.lines" 211) 94) 101 (q5 "most_of" 295 296 297 60 2 0 0 3 96 97 .none (.ref 98) (.ref 99) (.ref 100) 305 60 306) 102 (fO "most_of" "most_of" (htop 16) 3 (.str "nonebetter.rows" 293) 101) (q5 "turned" 308 309 310 68 2 0 0 3 103 104 .none (.ref 105) (.ref 106) (.ref 107) 316 68 317)
def hob6(i:Nat)(P:Params):Obj:=q3 i 109 (fO "turned" "turned" (htop 17) 3 (.str "nonebetter.rows" 293) 108) 113 (q5 "turn_keeps" 319 320 321 73 2 0 0 3 110 111 .none .none .none (.ref 112) 322 73 323) 114 (fO "turn_keeps" "turn_keeps" (htop 18) 3 (.str "nonebetter.rows" 293) 113) 120 (q5 "is_ahead" 327 328 329 80 2 0 0 3 115 116 .none (.ref 117) (.ref 118) (.ref 119) 332 80 333) (fO "is_ahead" "is_ahead" (htop 20) 3 (.str "nonebetter.judge" 325) 120)
def hob7(i:Nat)(P:Params):Obj:=q3 i 127 (q5 "is_part" 335 336 337 82 2 0 0 3 122 123 .none (.ref 124) (.ref 125) (.ref 126) 340 82 341) 128 (fO "is_part" "is_part" (htop 21) 3 (.str "nonebetter.judge" 325) 127) 134 (q5 "is_hold" 343 344 345 84 2 0 0 3 129 130 .none (.ref 131) (.ref 132) (.ref 133) 348 84 349) 135 (fO "is_hold" "is_hold" (htop 22) 3 (.str "nonebetter.judge" 325) 134) (q5 "are_holds" 351 352 353 86 2 0 0 3 136 137 .none .none .none (.ref 138) 354 86 355)
def hob8(i:Nat)(P:Params):Obj:=q3 i 140 (fO "are_holds" "are_holds" (htop 23) 3 (.str "nonebetter.judge" 325) 139) 144 (q5 "is_turn" 357 358 359 90 2 0 0 3 141 142 .none .none .none (.ref 143) 360 90 361) 145 (fO "is_turn" "is_turn" (htop 24) 3 (.str "nonebetter.judge" 325) 144) 151 (q5 "told_given" 363 364 365 94 4 0 0 3 146 147 .none (.ref 148) (.ref 149) (.ref 150) 370 94 371) (fO "told_given" "told_given" (htop 25) 3 (.str "nonebetter.judge" 325) 151)
def hob9(i:Nat)(P:Params):Obj:=q3 i 158 (q5 "told_low" 373 374 375 98 4 0 0 3 153 154 .none (.ref 155) (.ref 156) (.ref 157) 381 98 382) 159 (fO "told_low" "told_low" (htop 26) 3 (.str "nonebetter.judge" 325) 158) 165 (q5 "told_high" 384 385 386 103 4 0 0 3 160 161 .none (.ref 162) (.ref 163) (.ref 164) 392 103 393) 166 (fO "told_high" "told_high" (htop 27) 3 (.str "nonebetter.judge" 325) 165) (q5 "told_better" 395 396 397 108 4 0 0 3 167 168 .none (.ref 169) (.ref 170) (.ref 171) 402 108 403)
def hob10(i:Nat)(P:Params):Obj:=q3 i 173 (fO "told_better" "told_better" (htop 28) 3 (.str "nonebetter.judge" 325) 172) 177 (q5 "told_sum" 405 406 407 112 4 0 0 3 174 175 .none .none .none (.ref 176) 408 112 409) 178 (fO "told_sum" "told_sum" (htop 29) 3 (.str "nonebetter.judge" 325) 177) 182 (q5 "told_share" 411 412 413 119 4 0 0 3 179 180 .none .none .none (.ref 181) 414 119 415) (fO "told_share" "told_share" (htop 30) 3 (.str "nonebetter.judge" 325) 182)
def hob11(i:Nat)(P:Params):Obj:=q3 i 189 (q5 "told_shut" 417 418 419 127 4 0 0 3 184 185 .none (.ref 186) (.ref 187) (.ref 188) 427 127 428) 190 (fO "told_shut" "told_shut" (htop 31) 3 (.str "nonebetter.judge" 325) 189) 196 (q5 "told_either" 430 431 432 136 4 0 0 3 191 192 .none (.ref 193) (.ref 194) (.ref 195) 440 136 441) 197 (fO "told_either" "told_either" (htop 32) 3 (.str "nonebetter.judge" 325) 196) (q5 "told_like" 443 444 445 147 4 0 0 3 198 199 .none (.ref 200) (.ref 201) (.ref 202) 451 147 452)
def hob12(i:Nat)(P:Params):Obj:=q3 i 204 (fO "told_like" "told_like" (htop 33) 3 (.str "nonebetter.judge" 325) 203) 205 (.mk (.type "dict") none (.dict #[kO P "given" 454 (.int 2 455),kO P "low" 456 (.int 2 457),kO P "high" 458 (.int 2 459),kO P "better" 460 (.int 1 461),kO P "sum" 462 (.int 2 463),kO P "share" 464 (.int 3 465),kO P "shut" 466 (.int 3 467),kO P "either" 468 (.int 4 469),kO P "like" 470 (.int 2 471)] 9) #[]) 206 (.mk (.type "dict") none (.dict #[kO P "given" 482 (.ref 152),kO P "low" 483 (.ref 159),kO P "high" 484 (.ref 166),kO P "better" 485 (.ref 173),kO P "sum" 486 (.ref 178),kO P "share" 487 (.ref 183),kO P "shut" 488 (.ref 190),kO P "either" 489 (.ref 197),kO P "like" 490 (.ref 204)] 9) #[]) 212 (q5 "row_told" 501 502 503 154 4 0 0 3 207 208 .none (.ref 209) (.ref 210) (.ref 211) 509 154 510) (fO "row_told" "row_told" (htop 36) 3 (.str "nonebetter.judge" 325) 212)
def hob13(i:Nat)(P:Params):Obj:=q3 i 219 (q5 "rows_told" 512 513 514 161 3 0 0 3 214 215 .none (.ref 216) (.ref 217) (.ref 218) 521 161 522) 220 (fO "rows_told" "rows_told" (htop 37) 3 (.str "nonebetter.judge" 325) 219) 226 (q5 "rests_on" 526 527 528 170 1 0 0 3 221 222 .none (.ref 223) (.ref 224) (.ref 225) 533 170 534) 227 (fO "rests_on" "rests_on" (htop 39) 3 (.str "nonebetter.shorter" 524) 226) (q5 "trimmed" 536 537 538 179 2 0 0 3 228 229 .none .none .none (.ref 230) 539 179 540)
def hob14(i:Nat)(P:Params):Obj:=q3 i 232 (fO "trimmed" "trimmed" (htop 40) 3 (.str "nonebetter.shorter" 524) 231) 236 (q5 "merged" 542 543 544 186 2 0 0 3 233 234 .none .none .none (.ref 235) 545 186 546) 237 (fO "merged" "merged" (htop 41) 3 (.str "nonebetter.shorter" 524) 236) 241 (q5 "shorter" 548 549 550 194 3 0 0 3 238 239 .none .none .none (.ref 240) 551 194 552) (fO "shorter" "shorter" (htop 42) 3 (.str "nonebetter.shorter" 524) 241)
def hob15(i:Nat)(P:Params):Obj:=q3 i 248 (q5 "_law_mix" 556 557 558 201 2 0 0 3 243 244 .none (.ref 245) (.ref 246) (.ref 247) 562 201 563) 249 (q4 "_law_mix" 44 248) 255 (q5 "_law_cell_at" 565 566 567 204 2 0 0 3 250 251 .none (.ref 252) (.ref 253) (.ref 254) 570 204 571) 256 (q4 "_law_cell_at" 45 255) (q5 "_law_left" 573 574 575 208 2 0 0 3 257 258 .none (.ref 259) (.ref 260) (.ref 261) 578 208 579)
def hob16(i:Nat)(P:Params):Obj:=q3 i 263 (q4 "_law_left" 46 262) 269 (q5 "_law_draw" 581 582 583 210 2 0 0 3 264 265 .none (.ref 266) (.ref 267) (.ref 268) 587 210 588) 270 (q4 "_law_draw" 47 269) 274 (q5 "_law_problem" 590 591 592 217 3 0 0 3 271 272 .none .none .none (.ref 273) 593 217 594) (q4 "_law_problem" 48 274)
def hob17(i:Nat)(P:Params):Obj:=q3 i 288 (q5 "_law_copy" 608 609 610 236 1 0 0 3 283 284 .none (.ref 285) (.ref 286) (.ref 287) 612 236 613) 289 (q4 "_law_copy" 50 288) 295 (q5 "_law_is" 615 616 617 238 2 0 0 3 290 291 .none (.ref 292) (.ref 293) (.ref 294) 620 238 621) 296 (q4 "_law_is" 51 295) (q5 "_law_simple" 623 624 625 240 3 0 0 3 297 298 .none .none .none (.ref 299) 626 240 627)
def hob18(i:Nat)(P:Params):Obj:=q3 i 301 (q4 "_law_simple" 52 300) 305 (q5 "_law_summed" 629 630 631 257 3 0 0 3 302 303 .none .none .none (.ref 304) 632 257 633) 306 (q4 "_law_summed" 53 305) 310 (q5 "_law_shared" 635 636 637 271 2 0 0 3 307 308 .none .none .none (.ref 309) 638 271 639) (q4 "_law_shared" 54 310)
def hob19(i:Nat)(P:Params):Obj:=q3 i 315 (q5 "_law_most" 641 642 643 278 2 0 0 3 312 313 .none .none .none (.ref 314) 644 278 645) 316 (q4 "_law_most" 55 315) 320 (q5 "_law_shut_out" 647 648 649 282 2 0 0 3 317 318 .none .none .none (.ref 319) 650 282 651) 321 (q4 "_law_shut_out" 56 320) (q5 "_law_shut" 653 654 655 287 2 0 0 3 322 323 .none .none .none (.ref 324) 656 287 657)
def hob20(i:Nat)(P:Params):Obj:=q3 i 326 (q4 "_law_shut" 57 325) 332 (q5 "_law_either" 659 660 661 297 3 0 0 3 327 328 .none (.ref 329) (.ref 330) (.ref 331) 666 297 667) 333 (q4 "_law_either" 58 332) 337 (q5 "_law_like" 669 670 671 302 2 0 0 3 334 335 .none .none .none (.ref 336) 672 302 673) (q4 "_law_like" 59 337)
def hob21(i:Nat)(P:Params):Obj:=q3 i 344 (q5 "_law_row" 675 676 677 321 4 0 0 3 339 340 .none (.ref 341) (.ref 342) (.ref 343) 682 321 683) 345 (q4 "_law_row" 60 344) 351 (q5 "_law_told" 685 686 687 339 3 0 0 3 346 347 .none (.ref 348) (.ref 349) (.ref 350) 694 339 695) 352 (q4 "_law_told" 61 351) (q5 "_law_drawn" 697 698 699 349 3 0 0 3 353 354 .none (.ref 355) (.ref 356) (.ref 357) 712 349 713)
def hob22(i:Nat)(P:Params):Obj:=q3 i 359 (q4 "_law_drawn" 62 358) 365 (q5 "_law_turn" 715 716 717 373 2 0 0 3 360 361 .none (.ref 362) (.ref 363) (.ref 364) 723 373 724) 366 (q4 "_law_turn" 63 365) 372 (q5 "_law_paper" 726 727 728 379 3 0 0 3 367 368 .none (.ref 369) (.ref 370) (.ref 371) 737 379 738) (q4 "_law_paper" 64 372)
def hob23(i:Nat)(P:Params):Obj:=q3 i 377 (q5 "_law_rests" 740 741 742 389 1 0 0 3 374 375 .none .none .none (.ref 376) 743 389 744) 378 (q4 "_law_rests" 65 377) 384 (q5 "_law_long" 746 747 748 402 0 0 0 3 379 380 .none (.ref 381) (.ref 382) (.ref 383) 751 402 752) 385 (q4 "_law_long" 66 384) (q5 "law" 754 755 756 407 1 0 0 3 386 387 .none (.ref 388) (.ref 389) (.ref 390) 768 407 769)
def hob24(i:Nat)(P:Params):Obj :=
 q4 "law" 67 391
def hob(i:Nat)(P:Params):Obj:=(bif ble i 203 then(bif ble i 108 then(bif ble i 57 then(bif ble i 28 then hob0 i P else(bif ble i 46 then hob1 i P else hob2 i P))else(bif ble i 77 then hob3 i P else(bif ble i 90 then hob4 i P else hob5 i P)))else(bif ble i 152 then(bif ble i 121 then hob6 i P else(bif ble i 139 then hob7 i P else hob8 i P))else(bif ble i 172 then hob9 i P else(bif ble i 183 then hob10 i P else hob11 i P))))else(bif ble i 300 then(bif ble i 242 then(bif ble i 213 then hob12 i P else(bif ble i 231 then hob13 i P else hob14 i P))else(bif ble i 262 then hob15 i P else(bif ble i 275 then hob16 i P else hob17 i P)))else(bif ble i 338 then(bif ble i 311 then hob18 i P else(bif ble i 325 then hob19 i P else hob20 i P))else(bif ble i 373 then(bif ble i 358 then hob21 i P else hob22 i P)else(bif ble i 391 then hob23 i P else hob24 i P)))))
local macro_rules|`(term|q1 $p $a:num)=>`(term|(nat_lit $a,hob (nat_lit $a) $p)::[])|`(term|q1 $p $a:num $b*)=>`(term|(nat_lit $a,hob (nat_lit $a) $p)::q1 $p $b*)
def heapK:Params->W.Frag:=fun P=>q1 P 3 20 21 27 28 34 35 41 42 46 47 51 52 56 57 63 64 70 71 77 78 84 85 89 90 94 95 101 102 108 109 113 114 120 121 127 128 134 135 139 140 144 145 151 152 158 159 165 166 172 173 177 178 182 183 189 190 196 197 203 204 205 206 212 213 219 220 226 227 231 232 236 237 241 242 248 249 255 256 262 263 269 270 274 275 288 289 295 296 300 301 305 306 310 311 315 316 320 321 325 326 332 333 337 338 344 345 351 352 358 359 365 366 372 373 377 378 384 385 391 392
theorem all_ok(M:Mg mg)(DM:mg "divmod"=none)(J0:JTab0 w K mg aT aL fT fL)(F1:Fn K mg "_law_cell_at" Quv)(F2:Fn K mg "_law_left" Qlj)(F3:Fn K mg "_law_mix" Quu)(F4:Fn K mg "_law_draw" Quw)(F5:Fn K mg "_law_problem" Vh)(F6:Fn K mg "_law_turn" Que)(F7:Fn K mg "_law_drawn" Qhu)(F8:Fn K mg "_law_is" sIs)(F9:Fn K mg "_law_simple" sSim)(aM:Fn K mg "_law_summed" sSum)(av:Fn K mg "_law_like" sLik)(aX:Fn K mg "_law_shared" sShr)(a9:Fn K mg "_law_most" sMst)(ar:Fn K mg "_law_shut_out" sSho)(az:Fn K mg "_law_shut" sSht)(aA:Fn K mg "_law_either" sEit)(a2:Fn K mg "_law_row" Qht)(an:Fn K mg "_law_paper" Qlh)(aU:Fn K mg "_law_long" Quo)(ax:Fn K mg "_law_copy" Qfx)(aZ:Fn K mg "_law_told" Qfw)(aw:Fn K mg "_law_rests" Qdd)(aO:Fn K mg "is_whole" Qbc)(aB:Fn K mg "is_number_of" Qkm)(aP:Fn K mg "told_given" Qfm)(ba:Fn K mg "single_row" Qfi)(bc:Fn K mg "told_low" Qtr)(a7:Fn K mg "told_high" Qkv)(aV:Fn K mg "better_row" Vd)(aC:Fn K mg "told_better" Qbh)(aq:Fn K mg "is_pair" Qez)(bd:Fn K mg "is_ahead" Qbd)(a4:Fn K mg "is_part" Qfa)(aJ:Fn K mg "sum_row" Qfd)(aY:Fn K mg "told_sum" Qtv)(aS:Fn K mg "share_row" Wl)(aF:Fn K mg "told_share" Qfn)(ay:Fn K mg "is_hold" Qfb)(au:Fn K mg "are_holds" Wm)(aG:Fn K mg "most_of" Qpe)(aH:Fn K mg "shut_row" Qbe)(aD:Fn K mg "told_shut" Qkw)(aI:Fn K mg "without" Qbf)(a0:Fn K mg "either_row" Ve)(ap:Fn K mg "told_either" Wo)(aN:Fn K mg "is_turn" Qcr)(am:Fn K mg "turned" Qfj)(a6:Fn K mg "turn_keeps" Qcs)(aK:Fn K mg "like_row" Qbg)(a1:Fn K mg "told_like" Qkx)(a3:Fn K mg "row_told" Qbi)(ao:Fn K mg "rows_told" Wp)(a5:Fn K mg "named_by" Wu)(aE:Fn K mg "rests_on" Qhx)(aR:Fn K mg "renumbered" sRen)(bb:Fn K mg "trimmed" Qqw)(a8:Fn K mg "merged" Qic)(aW:Fn K mg "shorter" Qlf)(aQ:Fun K "law" "law" sLaw f fd):FnOk P w K mg base CX0 9 f fd ["_law_script"] (Qlk K):=by
 have d:=okCell (P:=P) (w:=w) (base:=base) F1 M
 have ad:=Qya F2 M d
 have ak:=okMixB (P:=P) (w:=w) (base:=base) F3 M
 have aj:=okDraw F4 M ak
 have B:=Qjn F5 M d ad aj
 have ae:=okTurn (P:=P) (w:=w) (base:=base) F6 M DM
 have X:=Qxm F7 M DM ae
 have j:=okIs (P:=P) (w:=w) (base:=base) F8 M
 have Q:=okSim F9 M j
 have U:=okSum aM M j
 have af:=okLik (P:=P) (w:=w) (base:=base) av M
 have R:=okShr (P:=P) (w:=w) (base:=base) aX M
 have ag:=okMst (P:=P) (w:=w) (base:=base) a9 M
 have z:=okSho (P:=P) (w:=w) (base:=base) ar M
 have ab:=okSht az M j ag z
 have S:=okEit (P:=P) (w:=w) (base:=base) aA M
 have I:=Qxl a2 M Q U af j R ab S
 have aa:=Qxy an M X I
 have ac:=okLong (P:=P) (w:=w) (base:=base) aU M
 have ai:=Qur (P:=P) (w:=w) (base:=base) ax M
 have ah:=Qup aZ M I
 have Y:=Qut (P:=P) (w:=w) (base:=base) aw M
 have c:=Qpb (P:=P) (w:=w) (base:=base) aO M
 have a:=Qxd aB M c
 have q:=Qtt aP M a
 have g:=Qtl (P:=P) (w:=w) (base:=base) ba M
 have G:=okTLow bc M a g
 have t:=Qxf a7 M a g
 have o:=Qje (P:=P) (w:=w) (base:=base) aV M
 have n:=Qpu aC M c o
 have k:=Qtd (P:=P) (w:=w) (base:=base) aq M
 have b:=Qpd bd M a
 have J:=Qtf a4 M k b c
 have N:=Qtk (P:=P) (w:=w) (base:=base) aJ M
 have C:=okTSum aY M J N
 have x:=Qmo (P:=P) (w:=w) (base:=base) aS M
 have p:=Qtu aF M b c x
 have O:=Qth ay M k a
 have v:=Qmq au M O
 have V:=okMost (P:=P) (w:=w) (base:=base) aG M
 have H:=Qpk (P:=P) (w:=w) (base:=base) aH M
 have y:=Qxg aD M b v V H
 have l:=Qpm (P:=P) (w:=w) (base:=base) aI M
 have s:=Qjg a0 M l
 have m:=Qpv ap M b a l s
 have T:=Qtn aN M a
 have Z:=Qtp (P:=P) (w:=w) (base:=base) am M
 have r:=Qtq a6 M Z
 have E:=Qpn (P:=P) (w:=w) (base:=base) aK M
 have A:=Qxh a1 M T r E
 have D:=Qpx a3 M (Qty (P:=P) (base:=base) J0 q G t n C p y m A)
 have u:=Qmu ao M D
 have F:=Qqr (P:=P) (w:=w) (base:=base) a5 M
 have h:=Qxu aE M F
 have e:=okRen (P:=P) (w:=w) (base:=base) aR M
 have i:=okTrim bb M h e
 have W:=Qxw a8 M e i
 have L:=Qxx aW M u h i W
 have al:=okLaw aQ M Qyl B d aa ac ai ah Y L
 exact al
theorem walk{l:PySem.W.OpenLaw}{q:Program}{XP:Z9->Heap->Prop}{YP:World->Heap->Prop}{d:DefRec}{K:Params->Fg}(g:l.most=some 63)(b:d.params.defaults=[])
  (e:∀(w:World) (h:Heap),YP w h->(K w.params).In h)
  (F:∀(w:World) (mg:Z9) (fa:Addr) (h:Heap),(K w.params).In h->h.Ns mainGlobals mg->mg d.name=some (.ref fa) ->
   ∃fd:FuncData,(∀(s:Shared) (u:Value),BindsTo s fd ⟨[u],[]⟩ [("_law_script",u)])/\∀base:Heap,(K w.params).In base->base.Ns mainGlobals mg->FnOk l.prog w (K w.params) mg base CX0 9 fa fd ["_law_script"] (Qlk (K w.params))) :
  PySem.W.WalkO q loose XP YP l.row.toRowW d [] (fun f vs=>PySem.call f vs) :=
 L2.Qsw (n:=63) (k:=9) (x:="_law_script") (CX:=fun _=>CX0) (sp:=fun w=>Qlk (K w.params)) g Dc b ⟨rfl,Dc,Dc⟩ e F (fun _ _ a m i j c=>⟨a,m,rfl,c,i,j,fun _=>rfl⟩) fun _ _ _ _ _ z=>z
end Nb
def Nb.pwv:PySem.Program:={ PySem.Challenge.pw_nonebetter_k32_whole_shorter_papers with main:={ PySem.Challenge.pw_nonebetter_k32_whole_shorter_papers.main with body:=[Nb.htop 0,Nb.htop 1,Nb.htop 2,Nb.htop 3,Nb.htop 4,Nb.htop 5,Nb.htop 6,Nb.htop 7,Nb.htop 8,Nb.htop 9,Nb.htop 10,Nb.htop 11,Nb.htop 12,Nb.htop 13,Nb.htop 14,Nb.htop 15,Nb.htop 16,Nb.htop 17,Nb.htop 18,Nb.htop 19,Nb.htop 20,Nb.htop 21,Nb.htop 22,Nb.htop 23,Nb.htop 24,Nb.htop 25,Nb.htop 26,Nb.htop 27,Nb.htop 28,Nb.htop 29,Nb.htop 30,Nb.htop 31,Nb.htop 32,Nb.htop 33,Nb.htop 34,Nb.htop 35,Nb.htop 36,Nb.htop 37,Nb.htop 38,Nb.htop 39,Nb.htop 40,Nb.htop 41,Nb.htop 42,Nb.htop 43,Nb.htop 44,Nb.htop 45,Nb.htop 46,Nb.htop 47,Nb.htop 48,Nb.htop 49,Nb.htop 50,Nb.htop 51,Nb.htop 52,Nb.htop 53,Nb.htop 54,Nb.htop 55,Nb.htop 56,Nb.htop 57,Nb.htop 58,Nb.htop 59,Nb.htop 60,Nb.htop 61,Nb.htop 62,Nb.htop 63,Nb.htop 64,Nb.htop 65,Nb.htop 66,Nb.htop 67] } }
def PySem.W.Fast.tw1653918685017820470:Nat->PySem.Params->PySem.Obj:=Nb.hob
theorem PySem.W.Fast.te1653918685017820470:Nb.hob=PySem.W.Fast.tw1653918685017820470:=rfl
def PySem.W.Fast.tw11596796208564254127:PySem.Program:=PySem.Challenge.pw_nonebetter_k32_whole_shorter_papers
theorem PySem.W.Fast.te11596796208564254127:PySem.Challenge.pw_nonebetter_k32_whole_shorter_papers=PySem.W.Fast.tw11596796208564254127:=rfl
def PySem.W.Fast.tw9401860820342270615:PySem.Program:=Nb.pwv
theorem PySem.W.Fast.te9401860820342270615:Nb.pwv=PySem.W.Fast.tw9401860820342270615:=rfl
def PySem.W.Fast.tw11570947652754012800:Nat->PySem.Stmt:=Nb.htop
theorem PySem.W.Fast.te11570947652754012800:Nb.htop=PySem.W.Fast.tw11570947652754012800:=rfl
namespace PySem.W.Fast
def tw10857807231241803833:=0
def tw15086619139702073989:=0
def tw5971378740131315455:=0
def tw18379220192570284168:=0
def tw1046596230443238327:=0
def tw3122530507434879584:=0
def tw11464989204296994625:=0
def tw15391835089282568089:=0
def tw6637683146856524113:=0
def tw4083197448646867263:=0
def tw10609126387811644026:=0
def tw10315989645854037803:=0
def tw14855963373444138772:=0
def tw156679769643833177:=0
def tw2712704944327192326:=0
def tw17581245171604296833:=0
def tw7128171948097284148:=0
def tw12644912055624998620:=0
def tw16374999530131039833:=0
def tw12760774447592617980:=0
def tw4353158847571958349:=0
def tw1933786263252317745:=0
def tw5622463613918168973:=0
def tw17415448538952034441:=0
def tw4229631030015802703:=0
def tw10448276108251822887:=0
def tw9109696825669080341:=0
def tw7003887425429920071:=0
def tw4932707289722150562:=0
def tw1617259656299381749:=0
def tw4306158097734697048:=0
def tw2287319189295780387:=0
def tw4646452468598529523:=0
def tw14654063225485814588:=0
def tw433995836403725701:=0
def tw4215001826124619467:=0
def tw13596398305312266560:=0
def tw11230982525048105988:=0
def tw4605889810647145853:=0
def tw2099052157844974286:=0
def tw12822150710768707977:=0
def tw9619137895213078110:=0
def tw2988792361126357310:=0
def tw5009807026568026725:=0
def tw2345565884876929339:=0
def tw9503244203832550452:=0
def tw1549730658514570931:=0
def tw3545153989039462741:=0
def tw4898364483113187771:=0
def tw10631608384864757552:=0
def tw17605717332585187368:=0
def tw6937008671484592121:=0
def tw6769812079376567602:=0
def tw13563057377416130457:=0
def tw13906291469592841797:=0
def tw16512343870809324018:=0
def tw17746899023454278654:=0
def tw1973990352416395176:=0
def tw16014635061051870596:=0
def tw15553790150289206459:=0
def tw2535720372442051883:=0
def tw11021861072311281375:=0
def tw391181691743110548:=0
def tw17748282918792597888:=0
def tw1350209252208926667:=0
def tw10845966662608879677:=0
def tw6167679858916756920:=0
def tw665147288080417863:=0
def tw5690739003543091188:=0
def tw9275178405399737090:=0
def tw4918472413919747577:=0
def tw2575456974582581907:=0
def tw5351532484672313047:=0
def tw12725005974077978586:=0
def tw1139101725195732112:=0
def tw7700277239610955232:=0
def tw5041890428546817777:=0
def tw16086217407172547540:=0
def tw8736490848655384677:=0
def tw6342257969169812381:=0
def tw8591299279695466843:=0
def tw10499547709598881663:=0
def tw14616486000057887717:=0
def tw56672343624459776:=0
def tw16717129121209413378:=0
def tw2184787216155209675:=0
def tw1414976914619996024:=0
def tw6167569516182516562:=0
def tw10597143589109578215:=0
def tw9174190875121166828:=0
def tw12716405015891903465:=0
def tw16934895412137421873:=0
def tw4672155185352507784:=0
def tw11077725162848872592:=0
def tw2903466470313615848:=0
def tw5545692013968345315:=0
def tw9918081476575751655:=0
def tw3768595039874885173:=0
def tw8845035078898180303:=0
def tw4208051876242698782:=0
def tw12203215546382785509:=0
def tw237393782536109604:=0
def tw3178930136401966934:=0
def tw10741025238543943567:=0
def tw11543799104875939524:=0
def tw7199642122169362489:=0
def tw4022829828081262929:=0
def tw5537531088219954233:=0
def tw15014704321392160472:=0
def tw8822506235997137529:=0
def tw1920481118328998465:=0
def tw6599125982735924850:=0
def tw3239470901868785964:=0
def tw9739379115268819190:=0
def tw684491547036935807:=0
def tw6896860748811334413:=0
def tw4033363902013137325:=0
def tw12383397853171586884:=0
def tw14784664237989397568:=0
def tw12888572323748995532:=0
def tw11617973196322857617:=0
def tw6986156874352855702:=0
def tw17049964240677066687:=0
def tw4063502921679677778:=0
def tw12554402390678718457:=0
def tw14025986590068321877:=0
def tw6020216097408129252:=0
def tw5753941635307379133:=0
def tw10827872218492915402:=0
def tw453849046643044688:=0
def tw2215532821178989753:=0
def tw16023775029705855480:=0
def tw7106568419779166832:=0
def tw16558651823132478320:=0
def tw2776796689311462629:=0
def tw17921624098301577851:=0
def tw4697594116663685912:=0
def tw2382356389905793286:=0
def tw12969472925616821792:=0
def tw323986439797610798:=0
end PySem.W.Fast
end
local macro_rules|`(term|q2 $a:num)=>`(term|(nat_lit $a)::[])|`(term|q2 $a:num $b*)=>`(term|(nat_lit $a)::q2 $b*)
local macro_rules|`(term|q6 $k $m $a $b)=>`(term|L2.Fn (L2.KOf $k) $m $a $b)|`(term|q6 $k $m $a $b $c*)=>`(term|L2.Fn (L2.KOf $k) $m $a $b/\q6 $k $m $c*)
open PySem PySem.W PyProof.Rows
set_option maxRecDepth 100000 in
set_option maxHeartbeats 0 in
theorem PySem.Challenge.cw_nonebetter_k32_whole_shorter_papers_holds : PySem.Challenge.rw_nonebetter_k32_whole_shorter_papers.Holds := by
 w_on;o_law;show PySem.W.OpenRow.Holds { PySem.Challenge.rw_nonebetter_k32_whole_shorter_papers.row with prog:=Nb.pwv };o_head (PySem.W.kHook Nb.heapK (q2 3 20 21 27 28 34 35 41 42 46 47 51 52 56 57 63 64 70 71 77 78 84 85 89 90 94 95 101 102 108 109 113 114 120 121 127 128 134 135 139 140 144 145 151 152 158 159 165 166 172 173 177 178 182 183 189 190 196 197 203 204 205 206 212 213 219 220 226 227 231 232 236 237 241 242 248 249 255 256 262 263 269 270 274 275 288 289 295 296 300 301 305 306 310 311 315 316 320 321 325 326 332 333 337 338 344 345 351 352 358 359 365 366 372 373 377 378 384 385 391 392) (fun _=>by kernel_rfl));(case hw=>w_witness2)
 k_fill
 refine Nb.walk (l:=PySem.Challenge.rw_nonebetter_k32_whole_shorter_papers) rfl rfl (fun w h Y=>PySem.W.kIn_of Y) ?F
 case F=>
  intro w mg fa h KX G hmg
  obtain⟨F1,F2,F3,F4,F5,F6,F7,F8,F9,F10,F11,F12,F13,F14,F15,F16,F17,F18,F19,F20,F21,F22,F23,F24,F25,F26,F27,F28,F29,F30,F31,F32,F33,F34,F35,F36,F37,F38,F39,F40,F41,F42,F43,F44,F45,F46,F47,F48,F49,F50,F51,F52,F53,F54,F55,F56,F57,F58,F59⟩:q6 KX mg "_law_cell_at" Nb.Quv "_law_left" Nb.Qlj "_law_mix" Nb.Quu "_law_draw" Nb.Quw "_law_problem" Nb.Vh "_law_turn" Nb.Que "_law_drawn" Nb.Qhu "_law_is" Nb.sIs "_law_simple" Nb.sSim "_law_summed" Nb.sSum "_law_like" Nb.sLik "_law_shared" Nb.sShr "_law_most" Nb.sMst "_law_shut_out" Nb.sSho "_law_shut" Nb.sSht "_law_either" Nb.sEit "_law_row" Nb.Qht "_law_paper" Nb.Qlh "_law_long" Nb.Quo "_law_copy" Nb.Qfx "_law_told" Nb.Qfw "_law_rests" Nb.Qdd "is_whole" Nb.Qbc "is_number_of" Nb.Qkm "told_given" Nb.Qfm "single_row" Nb.Qfi "told_low" Nb.Qtr "told_high" Nb.Qkv "better_row" Nb.Vd "told_better" Nb.Qbh "is_pair" Nb.Qez "is_ahead" Nb.Qbd "is_part" Nb.Qfa "sum_row" Nb.Qfd "told_sum" Nb.Qtv "share_row" Nb.Wl "told_share" Nb.Qfn "is_hold" Nb.Qfb "are_holds" Nb.Wm "most_of" Nb.Qpe "shut_row" Nb.Qbe "told_shut" Nb.Qkw "without" Nb.Qbf "either_row" Nb.Ve "told_either" Nb.Wo "is_turn" Nb.Qcr "turned" Nb.Qfj "turn_keeps" Nb.Qcs "like_row" Nb.Qbg "told_like" Nb.Qkx "row_told" Nb.Qbi "rows_told" Nb.Wp "named_by" Nb.Wu "rests_on" Nb.Qhx "renumbered" Nb.sRen "trimmed" Nb.Qqw "merged" Nb.Qic "shorter" Nb.Qlf "law" Nb.sLaw:=by
   dsimp only[L2.KOf]
   and_intros<;>(refine' L2.Xn KX G ?a ?l ?c ?k;case a | l | c | k=>k_is)
  have M:Nb.Mg mg:=by constructor<;>(refine PySem.W.mg_none_of KX G ?_;k_is)
  have DM:mg "divmod"=none:=by
   refine' PySem.W.mg_none_of KX G ?m
   (case m=>k_is)
  have J0:∃aT aL fT fL,Nb.JTab0 w (L2.KOf KX) mg aT aL fT fL:=by
   dsimp only[L2.KOf]
   refine' ⟨_,_,_,_,Nb.jtab0 (PySem.W.mg_of KX G ?b1) ?l1 ?k1 ?o1 ?e1 (PySem.W.mg_of KX G ?b2) ?l2 ?k2 ?o2 ?e2 (PySem.W.mg_of KX G ?n1) (PySem.W.mg_of KX G ?n2) (PySem.W.mg_of KX G ?n3) (PySem.W.mg_of KX G ?n4) (PySem.W.mg_of KX G ?n5) (PySem.W.mg_of KX G ?n6) (PySem.W.mg_of KX G ?n7) (PySem.W.mg_of KX G ?n8) (PySem.W.mg_of KX G ?n9)⟩
   (case b1 | l1=>k_is);(case k1=>k_keys);(case o1=>decide);(case e1=>exact rfl)
   (case b2 | l2=>k_is);(case k2=>k_keys);(case o2=>decide);(case e2=>exact rfl)
   (case n1 | n2 | n3 | n4 | n5 | n6 | n7 | n8 | n9=>k_is)
  obtain⟨aT,aL,fT,fL,J0⟩:=J0
  obtain⟨f,fd,FF,hm⟩:=F59
  have e0:=hmg.symm.trans hm
  cases e0
  refine' ⟨fd,?b,fun base kb nb=>Nb.all_ok M DM J0 F1 F2 F3 F4 F5 F6 F7 F8 F9 F10 F11 F12 F13 F14 F15 F16 F17 F18 F19 F20 F21 F22 F23 F24 F25 F26 F27 F28 F29 F30 F31 F32 F33 F34 F35 F36 F37 F38 F39 F40 F41 F42 F43 F44 F45 F46 F47 F48 F49 F50 F51 F52 F53 F54 F55 F56 F57 F58 FF⟩
  obtain⟨oc,od,kV,doc,pm,an,cdv,ct,osl,rfl,lk,hcd⟩:=FF.ex
  exact fun s u=>.of_eq rfl

