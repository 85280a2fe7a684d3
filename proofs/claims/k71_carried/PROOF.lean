import PyProof.Rows.All
import Wide.All
import OpenK.AllK
import Wide.FinOn
import Lean
import PyProof.EqAt
import PyProof.EqKinds
import PyProof.TupleCall
import KE.KDictOf
import KE.KRevIter
import KE.KMinKey
import KE.KTryDeep
import KE.KIsAll
import KE.KSortTup
import OpenK.KTop
import KE.KEqDict
import KE.KPairComp
import KE.KDictSum
import PyProof.Rows.SortStr
import PyProof.Rows.SortShellK
import PyProof.FString5
import KE.KIntText
import PyProof.NeKinds
import KE.KDictList
import PyProof.StrLawsNeg
import KE.KUnpack
import PyProof.Rows.TupTab
import KE.KRevSl
import PySem.Challenge.RW_nonebetter_k71_whole_papers_carried_over
noncomputable section
abbrev Fg := PySem.W.Frag
section
open PySem PySem.Spec PySem.W PyProof.Rows
abbrev jQ := @List.length_map
abbrev jX := @wpAny_bind
abbrev jY := @List.getD_eq_getElem?_getD
abbrev jZ := @List.getElem?_map
abbrev jJ := @Nat.le_refl
abbrev jK := @Heap.get?_push_of_some
abbrev jV := @List.length_append
abbrev jW := @List.getElem?_eq_some_iff
abbrev kQ := @wpAny_pure
abbrev kX := @List.size_toArray
abbrev kY := @List.map_append
abbrev kZ := @List.mem_cons_self
abbrev kK := @List.mem_of_getElem?
abbrev kW := @List.mem_singleton
abbrev yQ := @of_decide_eq_true
abbrev yX := @Bool.false_ne_true
abbrev yY := @List.length_take
abbrev yZ := @Heap.get?_push_size
abbrev yJ := @decide_eq_true
abbrev yK := @List.mem_cons
abbrev yV := @decide_eq_false
abbrev yW := @List.mem_cons_of_mem
abbrev zQ := @Heap.lt_size
abbrev zX := @List.take_of_length_le
abbrev zY := @Option.map_eq_some_iff
abbrev zZ := @List.length_replicate
abbrev zJ := @List.mem_map
abbrev zV := @List.length_cons
abbrev xQ := @Nat.ne_of_lt
abbrev xX := @List.map_cons
abbrev xY := @Nat.lt_of_le_of_lt
abbrev xZ := @Nat.add_le_add_left
abbrev xJ := @List.getElem?_append_right
abbrev xK := @List.mem_append
abbrev xV := @Nat.lt_of_lt_of_le
abbrev xW := @List.getElem?_append_left
abbrev wQ := @Option.bind_eq_some_iff
abbrev wX := @List.getElem?_eq_none
abbrev wY := @List.length_drop
abbrev wZ := @Bool.and_eq_true
abbrev wJ := @List.take_length
abbrev wV := @Bool.false_eq_true
abbrev jQa := @Int.emod_lt_of_pos
abbrev jQb := @List.length_set
abbrev jQc := @Int.toNat_natCast
abbrev jQd := @List.mem_append_right
abbrev jQe := @Array.length_toList
abbrev jQf := @Int.emod_nonneg
abbrev jXa := @List.mem_nil_iff
abbrev jXb := @List.length_range
abbrev jXc := @Bool.eq_iff_iff
abbrev jXd := @Nat.min_eq_left
abbrev jXe := @List.all_eq_true
abbrev jXf := @List.mem_range
abbrev jYa := @List.getElem_mem
abbrev jYb := @List.getElem?_eq_none_iff
abbrev jYc := @List.replicate_succ
abbrev jYd := @List.eq_nil_of_length_eq_zero
abbrev jYe := @Int.natCast_nonneg
abbrev jYf := @List.ext_getElem?
abbrev jZa := @List.foldl_append
abbrev jZb := @Nat.zero_le
abbrev jZc := @Bool.or_eq_true
abbrev jZd := @List.range_succ
abbrev jZe := @List.find?_cons
abbrev jZf := @Nat.le_trans
abbrev jJa := @Option.isSome_iff_exists
abbrev jJb := @List.mem_iff_getElem
abbrev jJc := @List.nodup_cons
abbrev jJd := @List.map_congr_left
abbrev jJe := @Array.getD_eq_getD_getElem?
abbrev jJf := @List.lookup_cons
abbrev jKa := @Heap.size_push
abbrev jKb := @List.foldl_cons
abbrev jKc := @List.pairwise_cons
abbrev jKd := @List.map_map
abbrev jKe := @Nat.sub_self
abbrev jKf := @Nat.lt_irrefl
abbrev kQa := @Bool.not_true
abbrev kQb := @List.flatten_cons
abbrev kQc := @Int.fdiv_eq_ediv_of_nonneg
abbrev kQd := @Nat.le_of_lt
abbrev kQe := @Nat.le_add_right
abbrev kQf := @List.any_eq_true
abbrev kXa := @List.map_set
abbrev kXb := @List.getElem_of_mem
abbrev kXc := @List.getElem?_range
abbrev kXd := @List.append_nil
abbrev kXe := @Int.not_lt
abbrev kXf := @List.filter_append
abbrev kYa := @List.map_nil
abbrev kYb := @Nat.le_succ
abbrev kYc := @List.mem_of_mem_take
abbrev kYd := @Int.le_refl
abbrev kYe := @List.pairwise_map
abbrev kYf := @List.any_cons
abbrev kZa := @List.map_take
abbrev kZb := @List.map_drop
abbrev kZc := @Nat.succ_ne_zero
abbrev kZd := @List.filter_cons_of_pos
abbrev kZe := @List.filter_cons_of_neg
abbrev kZf := @Nat.succ_le_succ
abbrev kJa := @List.getElem?_set_self
abbrev kJb := @Int.zero_add
abbrev kJc := @List.length_nil
abbrev kJd := @Option.map_some
abbrev kJe := @Heap.get?_update_self
abbrev kJf := @List.length_singleton
abbrev kKa := @List.mem_of_mem_erase
abbrev kKb := @List.mem_append_left
abbrev kKc := @List.getElem?_set_ne
abbrev kKd := @List.nodup_nil
abbrev kKe := @List.mem_of_mem_drop
abbrev kKf := @List.filterMap_cons
abbrev yQa := @List.length_zipWith
abbrev yQb := @List.length_reverse
end
abbrev gE := @List.getElem?_eq_getElem
set_option Elab.async false
set_option linter.all false
set_option maxRecDepth 100000
set_option maxHeartbeats 4000000
set_option bootstrap.genMatcherCode false
set_option genSizeOfSpec false
set_option compiler.extract_closed false
abbrev VP:=PySem.Value->PySem.Shared->Prop
abbrev Z7:=List (PySem.Str×PySem.Str×Int)
abbrev Z8:=List (PySem.Addr×PySem.Obj)
abbrev Z9:=PySem.Str->Option PySem.Value
open Sum (inr)
open Nat (beq ble)
open Or (inl)
abbrev Y1:=@PySem.F.plainAttrs_list
abbrev Y2:=@PySem.F.slot_list_append
abbrev Y3:=@PySem.F.type_list_append
abbrev Y4:=@PySem.F.plainAttrs_str
abbrev Y5:=@Option.some.inj
open PyProof.Rows (envOfC)
open PySem.W (mg_none_of)
abbrev Y20:=@if_neg
abbrev Y21:=@absurd
abbrev Y22:=@if_pos
abbrev Y23:=@PySem.wpAny_field
abbrev Y24:=@PySem.wpAny_setField_rec
abbrev Y25:=@PySem.wpAny_call_entry
abbrev Y26:=@PySem.wpAny_newObj_type
abbrev Y29:=@PySem.wpAny_mono
abbrev Y30:=@PySem.wpAny_holding
abbrev Y31:=@PySem.wpAny_truthy_bool
set_option hygiene false in
local macro_rules|`(term|qL $x)=>`(term|Qk Ql rfl M.len Xa (Qa $x Qc))
set_option hygiene false in
local macro_rules|`(term|qC $a*)=>`(term|Cal P w K mg base $a*)
set_option hygiene false in
local macro_rules|`(term|qI $a*)=>`(term|Inv X pins σ $a*)
set_option hygiene false in
local macro_rules|`(term|qA 0)=>`(term|[.str "share",.str "shut"])
set_option hygiene false in
local macro_rules|`(term|qB 0)=>`(term|["problem","best","told","line"])
local macro_rules|`(tactic|exists $a,*)=>do let mut b:Array (Lean.TSyntax `term):=#[]; for x in a.getElems do {match x.raw.isNatLit? with|some 4=>b:=b++#[←`(_),←`(rfl)]|some 7=>b:=b++#[←`(_),←`(_),←`(rfl),←`(rfl)]|some 8=>b:=b++#[←`(_),←`(_),←`(_),←`(rfl),←`(rfl)]|_=>b:=b.push x}; `(tactic|refine⟨$b,*⟩)
theorem Om{p:Prop}(h:p:=by lia):p:=h
theorem Dc{p:Prop}(h:p:=by decide):p:=h
theorem Z2{x:PySem.Str}:[x].Nodup:=.cons (fun _ h=>nomatch h) .nil
theorem Sn{p:Prop}(a b:PySem.Str)(e:(¬a=b)=p:=by exact rfl)(h:¬a=b:=by decide +kernel):p:=e.mp h
theorem Z0{n:Int}(h:0<n:=by decide +kernel):0<n:=h
theorem Z6{a b c l:Nat}(n:Nat)(h:a+b+c<l)(d:n<=b+c:=by decide):a+n<l:=by lia
theorem Dk{p:Prop}(h:p:=by decide +kernel):p:=h
theorem J1 (h:True:=by rfl):True:=h
theorem J2 (h:True:=by decide):True:=h
theorem J3 (h:True:=by first | exact .inl rfl | exact .inr rfl | assumption):True:=h
theorem J7 (h:True:=by exact fun _ _ _ _ _ _=>by first|exact L2.bind1 fun _=>rfl|exact L2.Zo fun _ _=>rfl|exact L2.Qen fun _ _ _=>rfl|exact L2.Qbb fun _ _ _ _=>rfl|exact L2.Quw fun _ _ _ _ _=>rfl|exact Nb.bind6 fun _ _ _ _ _ _=>rfl):True:=h
theorem J8 (h:True:=by intro v _ _ _ h;first|(cases h;exact congrArg _ ‹v=_›)|((repeat obtain⟨_,h⟩:=h);first|exact congrArg _ ‹v=_›|rfl)):True:=h
theorem J4 (h:True:=by intro _;rfl):True:=h
local macro_rules|`(term|qa $s)=>`(term|($s).heap.objs.size)
local macro_rules|`(term|qd $x $a*)=>`(term|PySem.wpAny (PySem.model ($x).prog ($x).w) $a*)
local macro_rules|`(term|qe $x $y $a*)=>`(term|PySem.wpAny (PySem.model $x $y) $a*)
local macro_rules|`(term|qf $a*)=>`(term|PySem.StrLaws.sliceText $a*)
local macro_rules|`(term|qg $a*)=>`(term|List.replicate $a*)
local macro_rules|`(term|qh $x $a*)=>`(term|($x).env.scope.names.lookup $a*)
local macro_rules|`(term|qb $t)=>`(term|autoParam $t J1._auto_1)
local macro_rules|`(term|qc $t)=>`(term|autoParam $t J2._auto_1)
namespace L2
open PySem PySem.Spec PyProof.Rows
abbrev Key:=Sum Int Str
def Qks:Key->Value->Bool
 |.inl k,v=>Value.isInt k v
 |.inr x,v=>Value.isStrOf x v
def keyH(w:World):Key->Int
 |.inl k=>hashInt k
 |.inr x=>hashStr w x
theorem Ym:∀{k:Key} {v:Value},Qks k v=true->(∃i t,k=Sum.inl i/\v=Value.int i t)\/(∃x t,k=inr x/\v=Value.str x t)
 |.inl i,v,h=>by
  obtain⟨t,e⟩:=Value.isInt_shape (k:=i) (v:=v) h
  exact .inl ⟨i,t,rfl,e⟩
 |.inr x,v,h=>by
  obtain⟨t,e⟩:=Value.isStrOf_shape (x:=x) (v:=v) h
  exact .inr ⟨x,t,rfl,e⟩
theorem Qly(i:Int)(t:Tok):Qks (.inl i) (.int i t)=true:=by simp[Qks,Value.isInt]
theorem Qlz(x:Str)(t:Tok):Qks (.inr x) (.str x t)=true:=by simp[Qks,Value.isStrOf]
theorem key_ll(a b:Int):decide ((Sum.inl a:Key)=Sum.inl b)=(a == b):=by
 by_cases e:a=b
 .subst e;simp
 .have h:¬(Sum.inl a:Key)=Sum.inl b:=fun q=>e (Sum.inl.inj q)
  rw[yV h]
  exact(beq_eq_false_iff_ne.mpr e).symm
theorem key_rr(a b:Str):decide ((inr a:Key)=inr b)=decide (a=b):=by
 by_cases e:a=b
 .subst e;simp
 .have h:¬(inr a:Key)=inr b:=fun q=>e (Sum.inr.inj q)
  rw[yV h,yV e]
theorem key_lr(a:Int)(b:Str):decide ((Sum.inl a:Key)=inr b)=false:=yV (fun q=>nomatch q)
theorem key_rl(a:Str)(b:Int):decide ((inr a:Key)=Sum.inl b)=false:=yV (fun q=>nomatch q)
def Zg(prog:Program)(w:World):PySem.KeyKind prog w Key where
 is:=Qks
 hash:=keyH w
 inj:=fun v a b ha hb=>by
  rcases Ym ha with⟨i,t,rfl,rfl⟩ | ⟨x,t,rfl,rfl⟩
  .rcases Ym hb with⟨j,u,rfl,e⟩ | ⟨y,u,rfl,e⟩
   .injection e with e1 _;rw[e1]
   .exact nomatch e
  .rcases Ym hb with⟨j,u,rfl,e⟩ | ⟨y,u,rfl,e⟩
   .exact nomatch e
   .injection e with e1 _;rw[e1]
 byValue:=fun k v h=>by
  rcases Ym h with⟨i,t,rfl,rfl⟩ | ⟨x,t,rfl,rfl⟩<;>rfl
 pyHash:=fun hv h=>by
  rcases Ym hv with⟨i,t,rfl,rfl⟩ | ⟨x,t,rfl,rfl⟩
  .exact wpAny_pyHash_int h
  .exact wpAny_pyHash_str h
 eqBool:=fun hu hv h=>by
  rcases Ym hu with⟨i,t,rfl,rfl⟩ | ⟨x,t,rfl,rfl⟩
  .rcases Ym hv with⟨j,u,rfl,rfl⟩ | ⟨y,u,rfl,rfl⟩
   .rw[key_ll]at h;exact wpAny_eqBool_int h
   .rw[key_lr]at h;exact SeqAt.EqAt.int_str i t y u _ _ _ _ h
  .rcases Ym hv with⟨j,u,rfl,rfl⟩ | ⟨y,u,rfl,rfl⟩
   .rw[key_rl]at h;exact SeqAt.EqAt.str_int x t j u _ _ _ _ h
   .rw[key_rr]at h;exact wpAny_eqBool_str h
 «strs»:=fun k x t v h=>by
  rcases Ym h with⟨i,u,rfl,e⟩ | ⟨y,u,rfl,e⟩
  .exact nomatch e
  .injection e with e1 _
   subst e1
   cases v<;>rfl
theorem Qbo(prog:Program)(w:World)(i:Int)(t:Tok):(Zg prog w).is (.inl i) (.int i t)=true:=Qly i t
theorem Qhn(prog:Program)(w:World)(x:Str)(t:Tok):(Zg prog w).is (.inr x) (.str x t)=true:=Qlz x t
inductive V where
 |non | bl (b:Bool) | int (i:Int) | str (x:Str) | byt (b:Array UInt8) | flt (b:UInt64) | ref (a:Addr) | ty (n:String)
 deriving DecidableEq
def RelV:V->Value->Prop
 |.non,u=>u=Value.none
 |.bl b,u=>u=Value.bool b
 |.int i,u=>∃t,u=Value.int i t
 |.str x,u=>∃t,u=Value.str x t
 |.byt b,u=>∃t,u=Value.bytes b t
 |.flt b,u=>∃t,u=Value.float b t
 |.ref a,u=>u=Value.ref a
 |.ty n,u=>u=Value.type n
abbrev Vals:List V->List Value->Prop:=Paired RelV
theorem Vals.length{xs:List V}{us:List Value}(r:Vals xs us):xs.length=us.length:=Paired.length r
theorem Vals.get:∀{xs:List V} {us:List Value} {i:Nat} {x:V},Vals xs us->xs[i]?=some x->∃u,us[i]?=some u/\RelV x u
 |_,_,_,_,.nil,e=>by simp at e
 |_,_,0,_,.cons r _,e=>by simp at e;subst e;exists 4,r
 |_,_,i+1,x,.cons _ t,e=>by
  obtain⟨u,b,a⟩:=Vals.get (i:=i) (x:=x) t (by simpa using e)
  exists u,by simpa using b,a
theorem Vals.set{x:V}{u:Value}(r:RelV x u):∀{xs:List V} {us:List Value} (i:Nat),Vals xs us->Vals (xs.set i x) (us.set i u)
 |_,_,_,.nil=>.nil
 |_,_,0,.cons _ t=>.cons r t
 |_,_,i+1,.cons q t=>.cons q (Vals.set r i t)
theorem Vals.append{xs ys:List V}{us ws:List Value}(h:Vals xs us)(g:Vals ys ws):Vals (xs++ys) (us++ws):=by
 induction h with
 |nil=>exact g
 |cons r t ih=>exact .cons r ih
theorem Vals.take:∀{xs:List V} {us:List Value} (n:Nat),Vals xs us->Vals (xs.take n) (us.take n)
 |_,_,0,_=>.nil
 |_,_,_+1,.nil=>.nil
 |_,_,n+1,.cons r t=>.cons r (Vals.take n t)
theorem Vals.drop:∀{xs:List V} {us:List Value} (n:Nat),Vals xs us->Vals (xs.drop n) (us.drop n)
 |_,_,0,r=>r
 |_,_,_+1,.nil=>.nil
 |_,_,n+1,.cons _ t=>Vals.drop n t
def RelO:Option V->Option Value->Prop
 |some v,some u=>RelV v u
 |none,none=>True
 |_,_=>False
def KV{κ:Type}:List (κ×V)->List (κ×Value)->Prop:=Paired fun(p:κ×V) (q:κ×Value)=>p.1=q.1/\RelV p.2 q.2
def kV:Key->V
 |.inl i=>.int i
 |.inr x=>.str x
inductive HO where
 |lst (xs:List V)
 |tup (xs:List V)
 |dK (kvs:List (Key×V)) | dT (kvs:List (List Key×V))
 |set (S:Int->Bool) (n:Nat)
 |ins (C dx:Addr) (fs:List (Str×V))
 |own (x:Addr)
 |xd (fs:List (Str×V))
 |met (f x:Addr)
 |rng (lo hi:Int)
 |frz (o:Obj) (u:HO)
 |tbl (ps:Array Value)
 |ext (φ:Heap->Prop)
abbrev Hp:=Addr->Option HO
def upd(H:Hp)(a:Addr)(o:HO):Hp:=fun b=>if b=a then some o else H b
theorem upd_same{H:Hp}{a:Addr}{o:HO}:upd H a o a=some o:=by unfold upd;rw[Y22 rfl]
theorem Qj{H:Hp}{a b:Addr}{o:HO}(h:b≠a):upd H a o b=H b:=by unfold upd;rw[Y20 h]
theorem upd_upd{H:Hp}{a:Addr}{o u:HO}:upd (upd H a o) a u=upd H a u:=by
 funext b;unfold upd;split<;>rfl
theorem Kt{H:Hp}{a b:Addr}{o u:HO}(h:H a=some o)(h':H b=some u)(d:o≠u):a≠b:=by
 intro e;subst e;rw[h]at h';exact d (Y5 h')
theorem Qi{H:Hp}{a b:Addr}{o:HO}(h:H a=some o)(h':H b=none):a≠b:=by
 intro e;subst e;rw[h]at h';cases h'
section
variable(P:Program)(w:World)
def ObjOk(H:Hp)(h:Heap)(a:Addr):HO->Prop
 |.lst xs=>xs.length<=sizeLine/\∃(its:List Value) (n:Nat),Vals xs its/\h.get? a=some { cls:=.type "list",data:=.seq its.toArray n }
 |.tup xs=>xs.length<=sizeLine/\∃its:List Value,Vals xs its/\IsTup h a its.toArray
 |.dK kvs=>kvs.length<=sizeLine/\(a == sysModules)=false/\∃vs,KV kvs vs/\h.DictOf (Zg P w) a vs
 |.dT kvs=>kvs.length<=sizeLine/\(a == sysModules)=false/\∃xs:List (List Key×Addr×Value),
   Paired (fun(p:List Key×V) (q:List Key×Addr×Value)=>p.1=q.1/\H q.2.1=some (.tup (p.1.map kV))/\RelV p.2 q.2.2) kvs xs /\
   ∃o es ep,h.get? a=some o/\o.ExactDict/\o.data=.dict es ep/\es.toList=xs.map (entryOfKey (tupleKind (Zg P w)))/\(xs.map (·.1)).Nodup
 |.set S n=>h.SetOf (intKind P w) a S n
 |.ins C dx fs=>H dx=some (.own a)/\fs.length<=1000/\dx≠a/\h.get? a=some (PySem.W.instObj C dx) /\
   ∃mA,h.Ns1 dx mA/\(∀f,RelO (fs.lookup f) (mA f))/\PySem.Within mA (fs.map (·.1))
 |.own _=>∃o,h.get? a=some o
 |.xd fs=>∃mA,h.Ns1 a mA/\∀f,RelO (fs.lookup f) (mA f)
 |.rng lo hi=>∃t u v,h.get? a=some { cls:=.type "range",data:=.fields #[.int lo t,.int hi u,.int 1 v] }
 |.frz o u=>h.get? a=some o/\ObjOk H h a u
 |.tbl ps=>h.get? a=some { cls:=.none,data:=.fields ps }
 |.met f x=>h.get? a=some (PySem.W.methodObj (.ref f) (.ref x))
 |.ext φ=>φ h/\(∃o,h.get? a=some o)/\∀h1 h2:Heap,φ h1->(∀o,h1.get? a=some o->h2.get? a=some o)->φ h2
def HOk(H:Hp)(h:Heap):Prop:=∀a o,H a=some o->ObjOk P w H h a o
end
section
variable{P:Program}{w:World}{H H':Hp}{h h':Heap}{a:Addr}{o:HO}
theorem ObjOk.lt(x:ObjOk P w H h a o):a<h.objs.size:=by
 cases o with
 |lst xs=>obtain⟨_,_,_,_,e⟩:=x;exact zQ e
 |tup xs=>obtain⟨_,_,_,p⟩:=x;exact p.lt
 |dK kvs=>obtain⟨_,_,_,_,o,_,_,e,_⟩:=x;exact zQ e
 |dT kvs=>obtain⟨_,_,_,_,o,_,_,e,_⟩:=x;exact zQ e
 |set S n=>obtain⟨o,_,_,_,e,_⟩:=x;exact zQ e
 |ins C dx fs=>obtain⟨_,_,_,e,_⟩:=x;exact zQ e
 |own y=>obtain⟨_,e⟩:=x;exact zQ e
 |xd fs=>obtain⟨_,⟨_,_,_,e,_⟩,_⟩:=x;exact zQ e
 |rng lo hi=>obtain⟨_,_,_,e⟩:=x;exact zQ e
 |frz ob u=>obtain⟨e,_⟩:=x;exact zQ e
 |tbl ps=>exact zQ (show h.get? a=some _ from x)
 |met f y=>exact zQ (show h.get? a=some _ from x)
 |ext φ=>obtain⟨_,⟨_,e⟩,_⟩:=x;exact zQ e
theorem Paired.mapP{α β:Type}{F G:α->β->Prop}{l₁:List α}{l₂:List β}(h:Paired F l₁ l₂)(f:∀a b,F a b->G a b):Paired G l₁ l₂:=by
 induction h with
 |nil=>exact .nil
 |cons r t ih=>exact .cons (f _ _ r) ih
theorem Paired.imp'{α β:Type}{F G:α->β->Prop}(f:∀a b,F a b->G a b){l₁:List α}{l₂:List β}(r:Paired F l₁ l₂):Paired G l₁ l₂:=Paired.mapP r f
theorem ObjOk.stay(x:ObjOk P w H h a o)(k:∀b u,(b=a\/H b=some (.own a))->h.get? b=some u->h'.get? b=some u)
  (F:∀b,H b=some (.own a)->H' b=some (.own a)) (E:∀b xs,H b=some (.tup xs)->H' b=some (.tup xs)):ObjOk P w H' h' a o:=by
 induction o with
 |lst xs=>obtain⟨z,l,n,r,e⟩:=x;exists z,l,n,r,k _ _ (.inl rfl) e
 |tup xs=>obtain⟨z,l,r,g,e,c⟩:=x;exists z,l,r,g,k _ _ (.inl rfl) e,c
 |dK kvs=>obtain⟨z,y,B,r,g,j,i,e,c⟩:=x;exists z,y,B,r,g,j,i,k _ _ (.inl rfl) e,c
 |dT kvs=>
  obtain⟨z,y,xs,r,g,j,i,e,c⟩:=x
  exists z,y,xs,Paired.mapP r fun p q z=>⟨z.1,E _ _ z.2.1,z.2.2⟩,g,j,i,k _ _ (.inl rfl) e,c
 |set S n=>obtain⟨g,j,i,t,e,c⟩:=x;exists g,j,i,t,k _ _ (.inl rfl) e,c
 |ins C dx fs=>
  obtain⟨d,z,ne,e,m,⟨s,j,i,D,c⟩,r⟩:=x
  exists F _ d,z,ne,k _ _ (.inl rfl) e,m,⟨s,j,i,k _ _ (.inr d) D,c⟩,r
 |own y=>obtain⟨g,e⟩:=x;exists g,k _ _ (.inl rfl) e
 |xd fs=>obtain⟨m,⟨s,j,i,e,c⟩,r⟩:=x;exists m,⟨s,j,i,k _ _ (.inl rfl) e,c⟩,r
 |rng lo hi=>obtain⟨t,u,v,e⟩:=x;exists t,u,v,k _ _ (.inl rfl) e
 |frz g u ih=>obtain⟨e,q⟩:=x;exists k _ _ (.inl rfl) e,ih q
 |tbl ps=>
  have e:h.get? a=some { cls:=.none,data:=.fields ps }:=x
  show h'.get? a=some { cls:=.none,data:=.fields ps }
  exact k a _ (.inl rfl) e
 |met f y=>
  have e:h.get? a=some (PySem.W.methodObj (.ref f) (.ref y)):=x
  show h'.get? a=some (PySem.W.methodObj (.ref f) (.ref y))
  exact k a _ (.inl rfl) e
 |ext φ=>obtain⟨p,⟨o,e⟩,A⟩:=x;exists A _ _ p fun o q=>k _ _ (.inl rfl) q,⟨o,k _ _ (.inl rfl) e⟩,A
theorem HOk.lt(x:HOk P w H h)(e:H a=some o):a<h.objs.size:=(x a o e).lt
theorem HOk.fresh(x:HOk P w H h)(e:h.objs.size<=a):H a=none:=by
 cases q:H a with
 |none=>rfl
 |some u=>exact Y21 (xV (x.lt q) e) (jKf _)
theorem HOk.kept(x:HOk P w H h)(k:∀b u,h.get? b=some u->h'.get? b=some u):HOk P w H h':=fun a o e=>
 (x a o e).stay (fun b u _ q=>k b u q) (fun _ q=>q) fun _ _ q=>q
theorem HOk.laid(x:HOk P w H h)(k:∀b u,h.get? b=some u->h'.get? b=some u)(i:h.objs.size<=a)(d:ObjOk P w (upd H a o) h' a o):HOk P w (upd H a o) h':=fun b u e=>by
 have f:=x.fresh i
 by_cases g:b=a
 .subst g;rw[upd_same]at e;cases e;exact d
 .rw[Qj g]at e
  exact(x b u e).stay (fun c v _ q=>k c v q) (fun c q=>by rw[Qj (Qi q f)];exact q) fun c j q=>by rw[Qj (Qi q f)];exact q
end
def Rd(H:Hp)(a:Addr)(u:HO):Prop:=H a=some u\/∃o,H a=some (.frz o u)
theorem Rd.ok{P:Program}{w:World}{H:Hp}{h:Heap}{a:Addr}{u:HO}(r:Rd H a u)(x:HOk P w H h):ObjOk P w H h a u:=by
 rcases r with r | ⟨o,r⟩
 .exact x a u r
 .obtain⟨_,q⟩:=x a _ r
  exact q
def Mut:Option HO->Prop
 |some (.lst _)=>True
 |some (.dK _)=>True
 |some (.dT _)=>True
 |some (.set _ _)=>True
 |some (.ins _ _ _)=>True
 |some (.ext _)=>True
 |_=>False
section
variable{P:Program}{w:World}{H:Hp}{h h':Heap}{x e:Addr}{o':HO}
theorem HOk.write(ok:HOk P w H h)(i:Mut (H x))(n:e=x\/H e=some (.own x))(k:∀b u,b≠e->h.get? b=some u->h'.get? b=some u)(m:∃u,h'.get? e=some u)
  (l:ObjOk P w (upd H x o') h' x o'):HOk P w (upd H x o') h':=fun b u q=>by
 have d:∀c y,H c=some (.own y)->c≠x:=fun c y r z=>by subst z;rw[r]at i;exact i
 have f:∀c g,H c=some (.tup g)->c≠x:=fun c g r z=>by subst z;rw[r]at i;exact i
 by_cases j:b=x
 .subst j;rw[upd_same]at q;cases q;exact l
 .rw[Qj j]at q
  by_cases a:b=e
  .have p:H b=some (.own x):=by
    rcases n with z | z
    .exact Y21 (a.trans z) j
    .rw[a];exact z
   rw[q]at p;cases p
   obtain⟨v,hv⟩:=m
   exists v,by rw[a];exact hv
  .refine(ok b u q).stay (fun c v hc r=>k c v ?_ r) (fun c r=>by rw[Qj (d c b r)];exact r) fun c g r=>by rw[Qj (f c g r)];exact r
   rcases hc with rfl | hc
   .exact a
   .rintro rfl
    rcases n with z | z
    .exact d c b hc z
    .rw[hc]at z;cases z;exact j rfl
end
structure Un(fs ex:List Addr)(H H':Hp)(h h':Heap):Prop where
 keep:∀b o,h.get? b=some o->H b=none->b∉fs->b∉ex->h'.get? b=some o
 slot:∀b o,h.get? b=some o->H b=none->b∈fs->b∉ex->∃sl,h'.get? b=some { o with slots:=sl }
 free:∀b o,h.get? b=some o->H b=none->b∉ex->H' b=none
 there:∀b o,h.get? b=some o->b∉ex->∃o',h'.get? b=some o'
 tups:∀b xs,H b=some (.tup xs)->H' b=some (.tup xs)
 frzs:∀b o u,H b=some (.frz o u)->H' b=some (.frz o u)
 tbls:∀b ps,H b=some (.tbl ps)->∃more,H' b=some (.tbl (ps++more))
section
variable{fs ex:List Addr}{H H1:Hp}{h h1 h':Heap}{a x e:Addr}{o:HO}
theorem Un.any(u:Un fs ex H H1 h h1){b:Addr}{ob:Obj}(q:h.get? b=some ob)(n:H b=none)(c:b∉ex):∃sl,h1.get? b=some { ob with slots:=sl }:=by
 by_cases a:b∈fs
 .exact u.slot b ob q n a c
 .exact⟨ob.slots,u.keep b ob q n a c⟩
theorem Un.kept(k:∀b u,h.get? b=some u->h'.get? b=some u):Un fs ex H H h h' :=
 ⟨fun b a q _ _ _=>k b a q,fun b a q _ _ _=>⟨a.slots,k b a q⟩,fun _ _ _ n _=>n,fun b a q _=>⟨a,k b a q⟩,fun _ _ q=>q,fun _ _ _ q=>q,fun _ c q=>⟨#[],by rw[q];simp⟩⟩
theorem Un.refl:Un fs ex H H h h:=Un.kept fun _ _ q=>q
theorem Un.laid(k:∀b u,h.get? b=some u->h'.get? b=some u)(d:h.objs.size<=a)(c:H a=none):Un fs ex H (upd H a o) h h' where
 keep:=fun b u q _ _ _=>k b u q
 slot:=fun b u q _ _ _=>⟨u.slots,k b u q⟩
 free:=fun b u q n _=>by rw[Qj (xQ (xV (zQ q) d))];exact n
 there:=fun b u q _=>⟨u,k b u q⟩
 tups:=fun b e q=>by rw[Qj (Qi q c)];exact q
 frzs:=fun b u e q=>by rw[Qj (Qi q c)];exact q
 tbls:=fun b f q=>⟨#[],by rw[Qj (Qi q c),q];simp⟩
theorem Un.write(c:Mut (H x))(m:e=x\/H e=some (.own x))(k:∀b u,b≠e->h.get? b=some u->h'.get? b=some u)(d:∃u,h'.get? e=some u):Un fs ex H (upd H x o) h h':=by
 have i:∀b,H b=none->b≠x:=fun b n z=>by subst z;rw[n]at c;exact c
 have g:∀b,H b=none->b≠e:=fun b n z=>by
  subst z
  rcases m with r | r
  .exact i b n r
  .rw[n]at r;cases r
 have f:∀b u,H b=some u->¬Mut (some u)->b≠x:=fun b u q l z=>by subst z;rw[q]at c;exact l c
 refine⟨fun b u q n _ _=>k b u (g b n) q,fun b u q n _ _=>⟨u.slots,k b u (g b n) q⟩,fun b u q n _=>by rw[Qj (i b n)];exact n,fun b u q _=>?_,
  fun b j q=>by rw[Qj (f b _ q fun z=>z)];exact q,fun b u j q=>by rw[Qj (f b _ q fun z=>z)];exact q,fun b p q=>⟨#[],by rw[Qj (f b _ q fun z=>z),q];simp⟩⟩
 by_cases a:b=e
 .subst a;exact d
 .exact⟨u,k b u a q⟩
end
def trk(h:Heap)(H:Hp):List Addr:=(List.range h.objs.size).filter fun a=>(H a).isSome
def hidT(h:Heap)(H:Hp):Heap:=PySem.W.hideAll h (trk h H)
theorem Qma(h:Heap)(H:Hp):(hidT h H).objs.size=h.objs.size:=PySem.W.hideAll_size _ _
theorem Qqe{h:Heap}{H:Hp}{b:Addr}{o:Obj}(e:h.get? b=some o)(n:H b=none):(hidT h H).get? b=some o :=
 PySem.W.hideAll_get _ e fun a=>by
  have q:(H b).isSome=true:=(List.mem_filter.mp a).2
  rw[n]at q;simp at q
theorem Qtz{h:Heap}{H:Hp}{b:Addr}{o:Obj}(e:(hidT h H).get? b=some o):h.get? b=some o/\H b=none:=by
 have a:h.get? b=some o:=PySem.W.of_hideAll (trk h H) e
 exists a,?_
 cases q:H b with
 |none=>rfl
 |some x=>
  have c:b∈trk h H:=List.mem_filter.mpr ⟨jXf.mpr (zQ a),by simp[q]⟩
  have z:(hidT h H).get? b=none:=PySem.W.hideAll_none (trk h H) c
  rw[z]at e;cases e
structure Mod(K:Fg)(mg:Z9)(base:Heap):Prop where
 kin:K.In base
 glob:base.Ns mainGlobals mg
 blt:∃mb,base.Ns builtinsNs mb/\∀x:Str,x≠"__name__"->mb x=bootBuiltins x
 nolimit:base.NoLimit
set_option genInjectivity false in
set_option genInjectivity false in
structure Cx where
 prog:Program
 w:World
 K:Fg
 mg:Z9
 base:Heap
 A:Around
 N:List Str
 s₀:Shared
 H₀:Hp
 env:Env
 outer:List Env
 stack:List Env
 ex:List Addr
 fn:Str->Bool
 calm:Bool
 pn:Z8
 xe:VP
def frs(l:List Env):List Addr:=l.filterMap (·.frame)
abbrev Cx.fs(X:Cx):List Addr:=frs X.outer
def Vis(sc:Scope)(x:Str):Prop:=sc.names.lookup x=some .local\/sc.names.lookup x=some .cell\/sc.names.lookup x=some .free
def Loc(sc:Scope)(x:Str):Prop:=sc.names.lookup x=some .local\/sc.names.lookup x=some .cell
def Look(env:Env)(h:Heap)(m:Z9)(x:Str)(u:Value):Prop :=
 (env.kindOf x=some .local/\m x=some u)\/((env.kindOf x=some .cell\/env.kindOf x=some .free)/\∃c,env.cells.lookup x=some c/\h.IsCell c (some u))
structure Cx.Ok(X:Cx):Prop where
 mod:Mod X.K X.mg X.base
 kind:X.env.scope.kind=.function
 glob:X.env.globals=mainGlobals
 blt:X.env.builtins=builtinsNs
 above:X.s₀.heap.objs.size<=X.env.locals
 inj:∀x y c,X.env.cells.lookup x=some c->X.env.cells.lookup y=some c->x=y
 has:∀x,(X.env.kindOf x=some .cell\/X.env.kindOf x=some .free)->∃c,X.env.cells.lookup x=some c
 cab:∀x c,X.fn x=true->X.env.cells.lookup x=some c->X.s₀.heap.objs.size<=c
 hd:X.calm=true->X.A.handled=none
 frames:X.A.frames=some X.stack
 stk:X.stack=X.outer\/(X.stack=X.env::X.outer/\X.env.frame=some X.env.locals)
 exf:∀b∈X.ex,b≠X.env.locals/\∀x c,X.env.cells.lookup x=some c->c≠b
 bs:∀b o,X.base.get? b=some o->X.s₀.heap.get? b=some o/\X.H₀ b=none
 bsz:X.base.objs.size<=X.s₀.heap.objs.size
 noex:∀b o,X.base.get? b=some o->b∉X.ex
 exfs:∀b∈X.ex,b∉X.fs
 funs:X.s₀.heap.FunFrames X.base X.outer
 frf:∀b∈X.fs,X.H₀ b=none
structure Inv(X:Cx)(pins:Z8)(σ:List (Option V))(H:Hp)(s:Shared):Prop where
 ok:X.Ok
 os:s.os=X.s₀.os
 bare:AllBare s.gens
 base:Un X.fs X.ex X.H₀ H X.s₀.heap s.heap
 loc:∃m,s.heap.Ns X.env.locals m/\∀(i:Nat) (x:Str) (v:V),X.N[i]?=some x->σ[i]?=some (some v)->Vis X.env.scope x->∃u,RelV v u/\Look X.env s.heap m x u
 cell:∀x c,X.env.cells.lookup x=some c->∃v,s.heap.IsCell c v
 free:H X.env.locals=none
 freeC:∀x c,X.env.cells.lookup x=some c->H c=none
 pin:∀p∈X.pn++pins,s.heap.get? p.1=some p.2/\H p.1=none/\p.1≠X.env.locals/\p.1∉X.fs/\∀v,p.2.data≠.cell v
 hok:HOk X.prog X.w H s.heap
 len:σ.length=X.N.length
section
variable{X:Cx}{pins:Z8}{σ:List (Option V)}{H H':Hp}{s:Shared}{h':Heap}
theorem Cx.Ok.nofr(ok:X.Ok){b:Addr}{o:Obj}(e:X.base.get? b=some o):b∉X.fs:=fun a=>by
 have:=(ok.funs.mem a).1
 rw[e]at this;cases this
theorem Inv.bs(I:qI H s):∀b o,X.base.get? b=some o->s.heap.get? b=some o/\H b=none:=fun b o e=>
 ⟨I.base.keep b o (I.ok.bs b o e).1 (I.ok.bs b o e).2 (I.ok.nofr e) (I.ok.noex b o e),I.base.free b o (I.ok.bs b o e).1 (I.ok.bs b o e).2 (I.ok.noex b o e)⟩
theorem Inv.bk(I:qI H s):∀b o,X.base.get? b=some o->s.heap.get? b=some o:=fun b o e=>(I.bs b o e).1
theorem Inv.mod(I:qI H s):Mod X.K X.mg X.base:=I.ok.mod
theorem Inv.kIn(I:qI H s):X.K.In s.heap:=I.ok.mod.kin.keeps I.bk
theorem Inv.lt(I:qI H s):X.env.locals<(qa s):=by obtain⟨_,a,_⟩:=I.loc;exact a.lt
theorem Inv.sz(I:qI H s):X.s₀.heap.objs.size<=(qa s):=jZf I.ok.above (kQd I.lt)
theorem Inv.nofs(I:qI H s){a:Addr}(h:(qa s)<=a):a∉X.fs:=fun b=>by
 obtain⟨_,o,c,_⟩:=I.ok.funs.mem b
 exact Y21 (xV (zQ c) (jZf I.sz h)) (jKf _)
theorem Inv.cne(I:qI H s):∀x c,X.env.cells.lookup x=some c->c≠X.env.locals:=fun x c e z=>by
 obtain⟨v,o,f,d⟩:=I.cell x c e
 obtain⟨m,⟨g,i,h,b,a,_⟩,_⟩:=I.loc
 rw[z,b]at f;cases f;rw[a]at d;cases d
theorem Inv.funs(I:qI H s):s.heap.FunFrames X.base X.outer:=by
 have all:∀(l:List Env),(∀b∈frs l,b∈X.fs)->X.s₀.heap.FunFrames X.base l->s.heap.FunFrames X.base l:=by
  intro l
  induction l with
  |nil=>intro _ _;trivial
  |cons env r ih=>
   intro f h
   obtain⟨g,⟨L,o,d,j,m,k⟩,i⟩:=h
   have c:L∈X.fs:=f L (by unfold frs;rw[kKf,d];exact kZ)
   obtain⟨n,e⟩:=I.base.slot L o m (I.ok.frf L c) c fun z=>I.ok.exfs L z c
   exists g,⟨L,_,d,j,e,k⟩,ih (fun b a=>f b (by unfold frs;rw[kKf,d];exact yW _ a)) i
 exact all X.outer (fun _ a=>a) I.ok.funs
theorem Inv.stack(I:qI H s):s.heap.FunFrames X.base X.stack:=by
 rcases I.ok.stk with e | ⟨e,a⟩
 .rw[e];exact I.funs
 .rw[e]
  obtain⟨m,b,_⟩:=I.loc
  refine .cons (by rw[I.ok.kind];decide) a b ?_ I.funs
  exact Heap.get?_none_of_le (jZf I.ok.bsz I.ok.above)
theorem Inv.stkSub(I:qI H s):∀b∈frs X.stack,b∈X.env.locals::X.fs:=fun b a=>by
 rcases I.ok.stk with e | ⟨e,c⟩
 .rw[e]at a;exact yW _ a
 .rw[e]at a
  unfold frs at a
  rw[kKf,c]at a
  exact a
theorem Inv.stkFree(I:qI H s):∀b∈frs X.stack,H b=none:=fun b hb=>by
 rcases yK.mp (I.stkSub b hb)with e | hb
 .rw[e];exact I.free
 .obtain⟨_,o,a,_⟩:=I.ok.funs.mem hb
  exact I.base.free b o a (I.ok.frf b hb) fun z=>I.ok.exfs b z hb
theorem Inv.step{g':Array GenState}{t':Nat}{d':Drawn}{ch:List Addr}(I:qI H s)
  (j:∀b∈ch,(b∈X.ex\/X.s₀.heap.objs.size<=b)/\b≠X.env.locals/\(∀x c,X.env.cells.lookup x=some c->c≠b)/\∀p∈X.pn++pins,p.1≠b)
  (keep:∀b o,b≠X.env.locals->b∉X.fs->b∉ch->s.heap.get? b=some o->H b=none->h'.get? b=some o)
  (D:∀b o,b≠X.env.locals->b∈X.fs->b∉ch->s.heap.get? b=some o->H b=none->∃sl,h'.get? b=some { o with slots:=sl }) (f:∀b o,b∉ch->s.heap.get? b=some o->H b=none->H' b=none)
  (E:∀b o,b∉ch->s.heap.get? b=some o->∃o',h'.get? b=some o')
  (K:∀b xs,H b=some (.tup xs)->H' b=some (.tup xs)) (N:∀b o u,H b=some (.frz o u)->H' b=some (.frz o u)) (J:∀b ps,H b=some (.tbl ps)->∃more,H' b=some (.tbl (ps++more)))
  (ns:∀m,s.heap.Ns X.env.locals m->h'.Ns X.env.locals m) (Q:HOk X.prog X.w H' h') (Y:AllBare g') :
  qI H' { s with heap:=h',gens:=g',drawn:=d',toks:=t' }:=by
 have L:∀b o,X.s₀.heap.get? b=some o->b≠X.env.locals:=fun b o e=>xQ (xV (zQ e) I.ok.above)
 have C:∀b o,X.s₀.heap.get? b=some o->b∉X.ex->b∉ch:=fun b o e a F=>by
  rcases(j b F).1 with z | z
  .exact a z
  .exact Y21 (xV (zQ e) z) (jKf _)
 have y:∀x c,X.env.cells.lookup x=some c->∀v,s.heap.IsCell c v->h'.IsCell c v:=fun x c e v ⟨o,G,P⟩=>by
  have A:c∉ch:=fun z=>(j c z).2.2.1 x c e rfl
  by_cases R:c∈X.fs
  .obtain⟨sl,q⟩:=D c o (I.cne x c e) R A G (I.freeC x c e)
   exists _,q,P
  .exact⟨o,keep c o (I.cne x c e) R A G (I.freeC x c e),P⟩
 exists I.ok,I.os,Y,⟨fun b o e n F a=>?_,fun b o e n F a=>?_,fun b o e n a=>?_,fun b o e a=>?_,fun b xs e=>K b xs (I.base.tups b xs e),fun b o xs e=>N b o xs (I.base.frzs b o xs e),fun b ps e=>?_⟩,?_,fun x c e=>?_,?_,fun x c e=>?_,fun p S=>?_,Q,I.len
 .exact keep b o (L b o e) F (C b o e a) (I.base.keep b o e n F a) (I.base.free b o e n a)
 .obtain⟨sl,B⟩:=I.base.slot b o e n F a
  obtain⟨O,M⟩:=D b _ (L b o e) F (C b o e a) B (I.base.free b o e n a)
  exists O,M
 .obtain⟨o',B⟩:=I.base.there b o e a
  exact f b o' (C b o e a) B (I.base.free b o e n a)
 .obtain⟨o',B⟩:=I.base.there b o e a
  exact E b o' (C b o e a) B
 .obtain⟨V,B⟩:=I.base.tbls b ps e
  obtain⟨U,M⟩:=J b _ B
  exists V++U,by rw[M,Array.append_assoc]
 .obtain⟨m,W,Z⟩:=I.loc
  exists m,ns m W,fun i x v B M e3=>?_
  obtain⟨u,r,l⟩:=Z i x v B M e3
  exists u,r,?_
  rcases l with l | ⟨k,c,e,z⟩
  .exact .inl l
  .exact .inr ⟨k,c,e,y x c e _ z⟩
 .obtain⟨v,z⟩:=I.cell x c e
  exists v,y x c e v z
 .obtain⟨m,⟨o,_,_,G,_⟩,_⟩:=I.loc
  exact f _ o (fun z=>(j _ z).2.1 rfl) G I.free
 .obtain⟨v,o,G,P⟩:=I.cell x c e
  exact f c o (fun z=>(j c z).2.2.1 x c e rfl) G (I.freeC x c e)
 .obtain⟨e,n,ne,T,d⟩:=I.pin p S
  have A:p.1∉ch:=fun z=>(j p.1 z).2.2.2 p S rfl
  exists keep p.1 p.2 ne T A e n,f p.1 p.2 A e n,ne,T,d
theorem Inv.un{t':Nat}(I:qI H s)(u:Un X.fs [] H H' s.heap h')(i:HOk X.prog X.w H' h'):qI H' { s with heap:=h',toks:=t' }:=by
 obtain⟨m,⟨o,y,x,k,r⟩,_⟩:=id I.loc
 obtain⟨B,p⟩:=u.any k I.free (by simp)
 exact I.step (g':=s.gens) (d':=s.drawn) (ch:=[]) (fun _ z=>nomatch z) (fun b o _ c _ e n=>u.keep b o e n c (by simp)) (fun b o _ c _ e n=>u.slot b o e n c (by simp)) (fun b o _ e n=>u.free b o e n (by simp)) (fun b o _ e=>u.there b o e (by simp)) u.tups u.frzs u.tbls (fun A q=>by
  obtain⟨v,f,j,a,l⟩:=q
  rw[k]at a;cases a
  exists _,f,j,p,l) i I.bare
theorem Inv.call{g':Array GenState}{t':Nat}{d':Drawn}{ch:List Addr}(I:qI H s)(u:Un (frs X.stack) ch H H' s.heap h')(l:HOk X.prog X.w H' h')(B:AllBare g')
  (i:∀b∈ch,(b∈X.ex\/X.s₀.heap.objs.size<=b)/\b≠X.env.locals/\(∀x c,X.env.cells.lookup x=some c->c≠b)/\∀p∈X.pn++pins,p.1≠b) :
  qI H' { s with heap:=h',gens:=g',drawn:=d',toks:=t' }:=by
 obtain⟨m,⟨o,F,E,v,r⟩,_⟩:=id I.loc
 obtain⟨J,k⟩:=u.any v I.free fun z=>(i _ z).2.1 rfl
 exact I.step (ch:=ch) i (fun b o k y a e n=>u.keep b o e n (fun z=>(yK.mp (I.stkSub b z)).elim k y) a) (fun b o _ _ a e n=>u.any e n a) (fun b o a e n=>u.free b o e n a) (fun b o a e=>u.there b o e a) u.tups u.frzs u.tbls (fun G C=>by
  obtain⟨D,j,q,f,A⟩:=C
  rw[v]at f;cases f
  exists _,j,q,k,A) l B
theorem Inv.turned{t':Nat}{it:Addr}(I:qI H s)(k:∀b o,b≠it->s.heap.get? b=some o->h'.get? b=some o)(B:H it=none)(i:it≠X.env.locals)
  (y:it∈X.ex\/X.s₀.heap.objs.size<=it) (w:∀x c,X.env.cells.lookup x=some c->c≠it) (C:∀p∈X.pn++pins,p.1≠it):qI H { s with heap:=h',toks:=t' }:=by
 have f:∀b u,H b=some u->b≠it:=fun b u e z=>by rw[z,B]at e;cases e
 refine I.step (g':=s.gens) (d':=s.drawn) (ch:=[it]) (fun b D=>?_) (fun b o _ _ a e _=>k b o (fun z=>a (by simp[z])) e) (fun b o _ _ a e _=>⟨o.slots,k b o (fun z=>a (by simp[z])) e⟩) (fun _ _ _ _ n=>n)
  (fun b o a e=>⟨o,k b o (fun z=>a (by simp[z])) e⟩) (fun _ _ e=>e) (fun _ _ _ e=>e) (fun b F e=>⟨#[],by rw[e];simp⟩) (fun m A=>?_) (fun b u e=>?_) I.bare
 .have e:b=it:=by simpa using D
  subst e
  exists y,i,w,C
 .obtain⟨o,l,j,E,r⟩:=A
  exists o,l,j,k _ o (Ne.symm i) E,r
 .refine(I.hok b u e).stay (fun c v a q=>k c v ?_ q) (fun _ q=>q) fun _ _ q=>q
  rcases a with z | z
  .rw[z];exact f b u e
  .exact f c _ z
theorem Inv.tok(I:qI H s)(t:Nat):qI H { s with toks:=t }:=I.un (h':=s.heap) (t':=t) Un.refl I.hok
theorem Inv.kept{t':Nat}(I:qI H s)(k:∀b u,s.heap.get? b=some u->h'.get? b=some u):qI H { s with heap:=h',toks:=t' }:=I.un (Un.kept k) (I.hok.kept k)
theorem Inv.laid{a:Addr}{o:HO}{t':Nat}(I:qI H s)(k:∀b u,s.heap.get? b=some u->h'.get? b=some u)(c:(qa s)<=a)(d:ObjOk X.prog X.w (upd H a o) h' a o) :
  qI (upd H a o) { s with heap:=h',toks:=t' }:=I.un (Un.laid k c (I.hok.fresh c)) (I.hok.laid k c d)
theorem Inv.write{x e:Addr}{o:HO}{t':Nat}(I:qI H s)(f:Mut (H x))(d:e=x\/H e=some (.own x))(k:∀b u,b≠e->s.heap.get? b=some u->h'.get? b=some u)(a:∃u,h'.get? e=some u)
  (c:ObjOk X.prog X.w (upd H x o) h' x o):qI (upd H x o) { s with heap:=h',toks:=t' }:=I.un (Un.write f d k a) (I.hok.write f d k a c)
theorem Inv.pins_of{pins':Z8}(I:qI H s)(h:∀p∈pins',s.heap.get? p.1=some p.2/\H p.1=none/\p.1≠X.env.locals/\p.1∉X.fs/\∀v,p.2.data≠.cell v):Inv X pins' σ H s :=
 ⟨I.ok,I.os,I.bare,I.base,I.loc,I.cell,I.free,I.freeC,fun p a=>(xK.mp a).elim (fun z=>I.pin p (kKb _ z)) (h p),I.hok,I.len⟩
theorem Qiz{N:List Str}(d:N.Nodup){i j:Nat}{x:Str}(a:N[i]?=some x)(b:N[j]?=some x):i=j:=by
 obtain⟨g,c⟩:=jW.mp a
 obtain⟨f,e⟩:=jW.mp b
 exact(List.getElem_inj d).mp (c.trans e.symm)
theorem Qfr{M:Model}{A:Around}{E:VP}{i:Nat}{x:Str}{v:V}{u:Value}{Q:Unit->Shared->Prop}(I:qI H s)(hN:X.N.Nodup)(O:X.N[i]?=some x)(t:Loc X.env.scope x)(r:RelV v u)
  (h:∀s',Inv X pins (σ.set i (some v)) H s'->(∃a,Heap.SameBut a s.heap s'.heap/\(a=X.env.locals\/X.env.cells.lookup x=some a))->Q () s') (hf:autoParam (X.fn x=true\/qh X x=some .local) J3._auto_1):wpAny M A (storeName X.env x u) Q E s:=by
 obtain⟨m,Z,hl⟩:=id I.loc
 have R:(X.env.scope.kind == .class||(X.env.scope.kind == .module&&X.env.locals != X.env.globals))=false:=by rw[I.ok.kind];rfl
 have D:i<σ.length:=by rw[I.len];exact(jW.mp O).1
 have cne:=I.cne
 have g:∀{a:Addr} {K:Heap},(∃o,s.heap.get? a=some o/\H a=none)->Heap.SameBut a s.heap K->HOk X.prog X.w H K:=fun{a K} ha f b ob e=>by
  obtain⟨_,_,B⟩:=ha
  refine(I.hok b ob e).stay (fun c U hc q=>(f.2 c ?_).trans q) (fun _ q=>q) fun _ _ q=>q
  rintro rfl
  rcases hc with rfl | hc
  .rw[B]at e;cases e
  .rw[B]at hc;cases hc
 rcases t with hk | hk
 .refine wpAny_storeName_local hk Z (fun K aa f=>?_) R
  obtain⟨oL,_,_,ab,_⟩:=id Z
  refine h _ ⟨I.ok,I.os,I.bare,⟨fun b o e n J t=>?_,fun b o e n J t=>?_,I.base.free,fun b o e t=>?_,I.base.tups,I.base.frzs,I.base.tbls⟩,⟨_,aa,fun j y v' l C e3=>?_⟩,fun y c e=>?_,I.free,I.freeC,fun p hp=>?_,g ⟨oL,ab,I.free⟩ f,by simpa using I.len⟩ ⟨_,f,.inl rfl⟩
  .exact(f.2 b (xQ (xV (zQ e) I.ok.above))).trans (I.base.keep b o e n J t)
  .obtain⟨sl,l⟩:=I.base.slot b o e n J t
   exists sl,(f.2 b (xQ (xV (zQ e) I.ok.above))).trans l
  .obtain⟨o',l⟩:=I.base.there b o e t
   exists o',(f.2 b (xQ (xV (zQ e) I.ok.above))).trans l
  .by_cases G:j=i
   .subst G
    rw[O]at l;cases l
    rw[kJa D]at C
    cases C
    exists u,r,.inl ⟨hk,by simp⟩
   .rw[kKc (Ne.symm G)]at C
    obtain⟨u',Y,q⟩:=hl j y v' l C e3
    exists u',Y,?_
    rcases q with⟨k,e⟩ | ⟨k,c,e,z⟩
    .refine .inl ⟨k,?_⟩
     have:y≠x:=fun e=>G (Qiz hN l (e▸O))
     simp[this,e]
    .exact .inr ⟨k,c,e,z.sameBut f (cne y c e)⟩
  .obtain⟨U,z⟩:=I.cell y c e
   exists U,z.sameBut f (cne y c e)
  .obtain⟨e,n,ne,nf,d⟩:=I.pin p hp
   exists (f.2 p.1 ne).trans e,n,ne,nf,d
 .have F:X.fn x=true:=by
   rcases hf with z | z
   .exact z
   .rw[z]at hk;cases hk
  obtain⟨c,hc⟩:=I.ok.has x (.inl hk)
  obtain⟨U,z⟩:=I.cell x c hc
  refine wpAny_storeName_cell I.ok.kind hk hc z (fun K S f=>?_)
  obtain⟨oc,L,T⟩:=id z
  refine h { s with heap:=K } ⟨I.ok,I.os,I.bare,⟨fun b o e n J t=>?_,fun b o e n J t=>?_,I.base.free,fun b o e t=>?_,I.base.tups,I.base.frzs,I.base.tbls⟩,⟨m,Z.sameBut f (Ne.symm (cne x c hc)),fun j y v' l C e3=>?_⟩,fun y W e=>?_,I.free,I.freeC,fun p hp=>?_,g ⟨oc,L,I.freeC x c hc⟩ f,by simpa using I.len⟩ ⟨c,f,.inr hc⟩
  .exact(f.2 b (xQ (xV (zQ e) (I.ok.cab x c F hc)))).trans (I.base.keep b o e n J t)
  .obtain⟨sl,l⟩:=I.base.slot b o e n J t
   exists sl,(f.2 b (xQ (xV (zQ e) (I.ok.cab x c F hc)))).trans l
  .obtain⟨o',l⟩:=I.base.there b o e t
   exists o',(f.2 b (xQ (xV (zQ e) (I.ok.cab x c F hc)))).trans l
  .by_cases G:j=i
   .subst G
    rw[O]at l;cases l
    rw[kJa D]at C
    cases C
    exists u,r,.inr ⟨.inl hk,c,hc,S⟩
   .rw[kKc (Ne.symm G)]at C
    obtain⟨u',Y,q⟩:=hl j y v' l C e3
    exists u',Y,?_
    rcases q with q | ⟨k,W,e,z'⟩
    .exact .inl q
    .refine .inr ⟨k,W,e,z'.sameBut f ?_⟩
     rintro rfl
     exact G (Qiz hN l (I.ok.inj _ _ _ e hc▸O))
  .by_cases P:W=c
   .subst P;exists _,S
   .obtain⟨w2,z2⟩:=I.cell y W e
    exists w2,z2.sameBut f P
  .obtain⟨e,n,ne,nf,d⟩:=I.pin p hp
   exists (f.2 p.1 ?_).trans e,n,ne,nf,d
   intro q
   rw[q,L]at e
   have q':oc=p.2:=Y5 e
   exact d U (by rw[<-q'];exact T)
theorem Qdv{M:Model}{A:Around}{E:VP}{i:Nat}{x:Str}{v:V}{u:Value}{Q:Unit->Shared->Prop}(I:qI H s)(a:X.N.Nodup)(b:X.N[i]?=some x)(e:Loc X.env.scope x)(r:RelV v u)
  (h:∀s',Inv X pins (σ.set i (some v)) H s'->Q () s') (d:autoParam (X.fn x=true\/qh X x=some .local) J3._auto_1):wpAny M A (storeName X.env x u) Q E s :=
 Qfr I a b e r (fun s' c _=>h s' c) d
theorem Inv.call'{s':Shared}{ch:List Addr}(I:qI H s)(k:s'.os=s.os)(u:Un (frs X.stack) ch H H' s.heap s'.heap)(a:HOk X.prog X.w H' s'.heap)(j:AllBare s'.gens)
  (f:∀b∈ch,(b∈X.ex\/X.s₀.heap.objs.size<=b)/\b≠X.env.locals/\(∀x c,X.env.cells.lookup x=some c->c≠b)/\∀p∈X.pn++pins,p.1≠b):qI H' s':=by
 obtain⟨l,g',d',t',i⟩:=s'
 have e:i=s.os:=k
 subst e
 exact I.call (g':=g') (t':=t') (d':=d') u a j f
end
end L2
section
variable{p:Array Nat}{n c t' i j n' B m kk B':Nat}{xs ys vs zs ws:List L2.V}{us its its':List PySem.Value}{H H' H1 H0:L2.Hp}{a b it g C f sl l aT aL:PySem.Addr}{o ob:L2.HO}{u doc pm cdv ct oc vl vu:PySem.Value}{P prog:PySem.Program}{w:PySem.World}{h base h':PySem.Heap}{x qual:PySem.Str}{N loose:List PySem.Str}{A:PySem.Around}{E Q:VP}{v y z:L2.V}{X:L2.Cx}{e tg iter elt:PySem.Expr}{s:PySem.Shared}{pos pos' px tp:PySem.Pos}{pins:Z8}{t:List Nat}{es ifs:List PySem.Expr}{K:Fg}{lo hi best best2:Option Int}{fp:List PySem.Addr}{r:List Int×Int}{mA mg fT fL:Z9}{R:PySem.Result->PySem.Shared->Prop}{kw:List (PySem.Str×PySem.Value)}{fd:PySem.FuncData}{ps:List (Int×L2.V)}{outer:List PySem.Env}{scope:PySem.Scope}{an od:Option PySem.Addr}{osl:Array (Option PySem.Value)}{ns cs ms cs2:List Int}{T:String}{st:PySem.Stmt}{cp pl:List (Option Nat)}{m1 m2:Bool}{items2:Array PySem.Value}{hs:List (Int×Int)}{qs:List (Nat×Int)}
namespace L2
open PySem PySem.Spec PyProof.Rows
abbrev XK:=Value->Option Addr->Hp->Prop
abbrev St:=List (Option V)
abbrev VK:=V->Hp->Prop
abbrev TE:=St->Hp->VK->Prop
abbrev TT:=St->Hp->(Bool->Hp->Prop)->Prop
abbrev TA:=St->Hp->(List V->Hp->Prop)->Prop
set_option genInjectivity false in
set_option genInjectivity false in
structure Ends where
 nx:St->Hp->Prop
 rt:VK
 bk:St->Hp->Prop:=fun _ _=>False
 ct:St->Hp->Prop:=fun _ _=>False
abbrev TS:=Ends->St->Hp->Prop
def EP(X:Cx)(pins:Z8)(σ:St)(Q:VK)(u:Value)(s':Shared):Prop:=∃v H',qI H' s'/\RelV v u/\Q v H'
def TP(X:Cx)(pins:Z8)(σ:St)(Q:Bool->Hp->Prop)(b:Bool)(s':Shared):Prop:=∃H',qI H' s'/\Q b H'
def AP(X:Cx)(pins:Z8)(σ:St)(Q:List V->Hp->Prop)(us:List Value)(s':Shared):Prop:=∃vs H',qI H' s'/\Vals vs us/\Q vs H'
def SP(X:Cx)(pins:Z8)(D:Ends)(f:Flow)(s':Shared):Prop :=
 match f with
 |.next=>∃σ' H',Inv X pins σ' H' s'/\D.nx σ' H'
 |.brk=>∃σ' H',Inv X pins σ' H' s'/\D.bk σ' H'
 |.cont=>∃σ' H',Inv X pins σ' H' s'/\D.ct σ' H'
 |.ret u=>∃v σ' H',Inv X pins σ' H' s'/\RelV v u/\D.rt v H'
def PE(X:Cx)(e:Expr)(t:TE):Prop :=
 ∀(pins:Z8) (s:Shared) (σ:St) (H:Hp) (Q:VK),qI H s->t σ H Q->qd X X.A (eval e X.env) (EP X pins σ Q) X.xe s
def PT(X:Cx)(e:Expr)(t:TT):Prop :=
 ∀(pins:Z8) (s:Shared) (σ:St) (H:Hp) (Q:Bool->Hp->Prop),qI H s->t σ H Q->qd X X.A (isTrue e X.env (eval e X.env)) (TP X pins σ Q) X.xe s
def PW(X:Cx)(e:Expr)(t:TT):Prop :=
 ∀(whole:Sem Value) (pins:Z8) (s:Shared) (σ:St) (H:Hp) (Q:Bool->Hp->Prop),qI H s->t σ H Q->qd X X.A (isTrue e X.env whole) (TP X pins σ Q) X.xe s
theorem PW.pt{t:TT}(h:PW X e t):PT X e t:=h _
def PA(X:Cx)(es:List Expr)(t:TA):Prop :=
 ∀(pos:Pos) (pins:Z8) (s:Shared) (σ:St) (H:Hp) (Q:List V->Hp->Prop),qI H s->t σ H Q->qd X X.A (spliced (backTo pos (starEach es X.env))) (AP X pins σ Q) X.xe s
def PS(X:Cx)(st:Stmt)(t:TS):Prop :=
 ∀(pins:Z8) (s:Shared) (σ:St) (H:Hp) (D:Ends),qI H s->t D σ H->qd X X.A (exec st X.env) (SP X pins D) X.xe s
def PSs(X:Cx)(st:List Stmt)(t:TS):Prop :=
 ∀(pins:Z8) (s:Shared) (σ:St) (H:Hp) (D:Ends),qI H s->t D σ H->qd X X.A (execs st X.env) (SP X pins D) X.xe s
theorem thn{α:Type}{t:Sem α}{Q Q':α->Shared->Prop}{M:Model}(h:wpAny M A t Q E s)(b:∀a s,Q a s->Q' a s):wpAny M A t Q' E s:=Y29 h b fun _ _ x=>x
section
inductive tVar(i:Nat)(σ:St)(H:Hp)(Q:VK):Prop|mk(v:V)(h:σ[i]?=some (some v))(q:Q v H):tVar i σ H Q
def tC(v:V):TE:=fun _ H Q=>Q v H
theorem pe_var(j:X.N[i]?=some x)(hv:Vis X.env.scope x)(f:qc ((x == ("__debug__":Str))=false))(d:qc ((x == ("__classdict__":Str))=false)):PE X (.Name x pos) (tVar i):=by
 intro b s n H Q I h
 obtain⟨v,e,h⟩:=h
 obtain⟨m,o,k⟩:=I.loc
 obtain⟨u,r,l⟩:=k i x v j e hv
 have fin:EP X b n Q u s:=⟨v,H,I,r,h⟩
 rcases l with⟨hk,p⟩ | ⟨hk,c,g,a⟩
 .exact wpAny_Name (wpAny_loadName_local I.ok.kind hk o p fin) f
 .rcases hk with hk | hk
  .exact wpAny_Name (wpAny_loadName_cell I.ok.kind hk g a fin) f
  .exact wpAny_Name (wpAny_loadName_free I.ok.kind hk g a fin d) f
theorem Qe{i j pos}:PE X (.Constant (.int i) j pos) (tC (.int i)):=fun _ _ _ H _ I h=>wpAny_Constant_int ⟨.int i,H,I.tok _,⟨_,rfl⟩,h⟩
theorem Qbp{b j pos}:PE X (.Constant (.bool b) j pos) (tC (.bl b)):=fun _ _ _ H _ I h=>Constant_bool ⟨.bl b,H,I,rfl,h⟩
theorem Xh{j pos}:PE X (.Constant .none j pos) (tC .non):=fun _ _ _ H _ I h=>Constant_none ⟨.non,H,I,rfl,h⟩
theorem Xj{x j pos}:PE X (.Constant (.str x) j pos) (tC (.str x)):=fun _ _ _ H _ I h=>Calls.Constant_str ⟨.str x,H,I.tok _,⟨_,rfl⟩,h⟩
def Gl(X:Cx)(x:Str):Prop:=X.env.kindOf x=some .globalImplicit
theorem Qho{σ:St}(I:qI H s)(b:Gl X x)(c:X.mg x=some u)(h:Q u s)
  (a:qc ((x == ("__debug__":Str))=false)):qd X X.A (eval (.Name x pos) X.env) Q E s :=
 Calls.Name_function_global I.ok.kind b (Calls.loadGlobal_global (by rw[I.ok.glob];exact I.mod.glob.keeps I.bk) c h) a
theorem Qav{σ:St}(I:qI H s)(e:Gl X x)(f:X.mg x=none)(hv:bootBuiltins x=some u)(h:Q u s)
  (c:qc (x≠"__name__")) (d:qc ((x == ("__debug__":Str))=false)):qd X X.A (eval (.Name x pos) X.env) Q E s:=by
 obtain⟨g,b,a⟩:=I.mod.blt
 exact Calls.Name_function_global I.ok.kind e (Calls.loadGlobal_builtin (by rw[I.ok.glob];exact I.mod.glob.keeps I.bk) f (by rw[I.ok.blt];exact b.keeps I.bk) ((a x c).trans hv) h) d
theorem Qhp(b:Gl X x)(c:X.mg x=some u)(r:RelV v u)(a:qc ((x == ("__debug__":Str))=false)):PE X (.Name x pos) (tC v) :=
 fun _ _ _ H _ I h=>Qho I b c ⟨v,H,I,r,h⟩ a
theorem Qua(d:Gl X x)(a:X.mg x=none)(hv:bootBuiltins x=some u)(r:RelV v u)(c:qc (x≠"__name__"))(b:qc ((x == ("__debug__":Str))=false)):PE X (.Name x pos) (tC v) :=
 fun _ _ _ H _ I h=>Qav I d a hv ⟨v,H,I,r,h⟩ c b
variable{a b:Expr}{ta tb:TE}
def PC(X:Cx)(op:CmpOp)(a b:Expr)(t:TE):Prop :=
 ∀(pins:Z8) (s:Shared) (σ:St) (H:Hp) (Q:VK),qI H s->t σ H Q ->
  qd X X.A (eval a X.env) (fun v s₁=>qd X X.A (eval b X.env) (fun u s₂=>qd X X.A (compareOp op v u) (EP X pins σ Q) X.xe s₂) X.xe s₁) X.xe s
def tB(t:TE):TT:=fun σ H Q=>t σ H fun x H1=>∃c,x=.bl c/\Q c H1
theorem Qsy{op:CmpOp}{t:TE}(h:PC X op a b t)(g:behindInMarks op b=false:=by first | exact nobehind _ Dc Dc | rfl):PT X (.Compare a [op] [b] pos) (tB t):=by
 intro e s l H Q I m
 refine wpAny_isTrue_Compare1 (thn (h e s l H _ I m) fun v r g=>thn g fun u w k=>thn k fun c p f=>?_) g
 obtain⟨x,o,j,n,i⟩:=f
 obtain⟨d,rfl,q⟩:=i
 cases n
 exact Y31 ⟨o,j,q⟩
theorem Xl{t:TE}(h:PE X e t)(k:autoParam (∀whole,isTrue e X.env whole=(do let v ← whole;standAt e.pos;holding [v] (truthy v))) J4._auto_1):PT X e (tB t):=by
 intro a s g H Q I i
 refine isTrue_plain (thn (h a s g H _ I i) fun v m b=>?_) (k _)
 obtain⟨x,l,f,j,c⟩:=b
 obtain⟨d,rfl,q⟩:=c
 cases j
 exact Y31 ⟨l,f,q⟩
variable{tA tB':TT}{rest:List Expr}
def tAnd(t u:TT):TT:=fun σ H Q=>t σ H fun c H1=>if c=true then u σ H1 Q else Q false H1
def tOr(t u:TT):TT:=fun σ H Q=>t σ H fun c H1=>if c=true then Q true H1 else u σ H1 Q
def tNot(t:TT):TT:=fun σ H Q=>t σ H fun c H1=>Q (!c) H1
theorem Ju(f:PT X a tA):PW X (.BoolOp .And [a] pos) tA:=by
 intro g b s d H Q I h
 refine isTrue_and (thn (f b s d H Q I h) fun c i e=>?_)
 cases c with
 |true=>exact isTrue_and_nil e
 |false=>exact e
theorem Yr(f:PT X a tA):PW X (.BoolOp .Or [a] pos) tA:=by
 intro g b s d H Q I h
 refine isTrue_or (thn (f b s d H Q I h) fun c i e=>?_)
 cases c with
 |false=>exact isTrue_or_nil e
 |true=>exact e
theorem Ko(n:PT X a tA)(m:PW X (.BoolOp .And (b::rest) pos) tB'):PW X (.BoolOp .And (a::b::rest) pos) (tAnd tA tB'):=by
 intro k d s i H Q I h
 refine isTrue_and (thn (n d s i H _ I h) fun c l e=>?_)
 obtain⟨j,g,f⟩:=e
 cases c with
 |true=>exact m k d l i j Q g f
 |false=>exists j,g,f
theorem Yx(n:PT X a tA)(m:PW X (.BoolOp .Or (b::rest) pos) tB'):PW X (.BoolOp .Or (a::b::rest) pos) (tOr tA tB'):=by
 intro k d s i H Q I h
 refine isTrue_or (thn (n d s i H _ I h) fun c l e=>?_)
 obtain⟨j,g,f⟩:=e
 cases c with
 |true=>exists j,g,f
 |false=>exact m k d l i j Q g f
theorem Xr(f:PT X a tA):PT X (.UnaryOp .Not a pos) (tNot tA):=by
 intro b s d H Q I h
 exact isTrue_not (f b s d H (fun c e=>Q (!c) e) I h)
def tAndV(ta tb:TE):TE:=fun σ H Q=>ta σ H fun x H1=>∃c,x=.bl c/\if c=true then tb σ H1 Q else Q (.bl false) H1
def tNotV(ta:TE):TE:=fun σ H Q=>ta σ H fun x H1=>∃c,x=.bl c/\Q (.bl (!c)) H1
theorem Vx{op}{t:TE}(h:PE X a t):PE X (.BoolOp op [a] pos) t:=fun b s c H Q I d=>BoolOp_one (h b s c H Q I d)
theorem Jo(n:PE X a ta)(m:PE X (.BoolOp .And (b::rest) pos) tb):PE X (.BoolOp .And (a::b::rest) pos) (tAndV ta tb):=by
 intro d s i H Q I h
 refine BoolOp_and (thn (n d s i H _ I h) fun v k f=>?_)
 obtain⟨x,j,g,l,e⟩:=f
 obtain⟨c,rfl,e⟩:=e
 cases l
 refine Y31 ?_
 cases c with
 |true=>exact m d k i j Q g e
 |false=>exists .bl false,j,g,rfl,e
theorem Qsz(k:PE X a ta):PE X (.UnaryOp .Not a pos) (tNotV ta):=by
 intro b s i H Q I h
 refine UnaryOp_ (thn (k b s i H _ I h) fun v l e=>?_)
 obtain⟨x,j,f,g,d⟩:=e
 obtain⟨c,rfl,d⟩:=d
 cases g
 exact not_of (Y31 ⟨.bl (!c),j,f,rfl,d⟩)
def tIf(t:TT)(ta tb:TE):TE:=fun σ H Q=>t σ H fun c H1=>if c=true then ta σ H1 Q else tb σ H1 Q
theorem Qja{c:Expr}(m:PT X c tA)(o:PE X a ta)(n:PE X b tb):PE X (.IfExp c a b pos) (tIf tA ta tb):=by
 intro e s g H Q I h
 refine wpAny_IfExp (thn (m e s g H _ I h) fun d k f=>?_)
 obtain⟨l,j,i⟩:=f
 cases d with
 |true=>exact o e k g l Q j i
 |false=>exact n e k g l Q j i
end
def SqL(K:Fg)(H:Hp)(a:Addr)(xs:List V):Prop :=
 Rd H a (.lst xs) \/
  ∃(o:Obj) (its:Array Value) (n:Nat),K.lookup a=some o/\o.cls=.type "list"/\o.dict=none/\o.data=.seq its n/\its.size<=sizeLine/\Vals xs its.toList
def SqT(K:Fg)(H:Hp)(a:Addr)(xs:List V):Prop :=
 Rd H a (.tup xs) \/
  ∃(o:Obj) (its:Array Value) (n:Nat),K.lookup a=some o/\o.cls=.type "tuple"/\o.data=.seq its n/\its.size<=sizeLine/\Vals xs its.toList
def absV:Value->Option V
 |.none=>some .non
 |.bool b=>some (.bl b)
 |.int i _=>some (.int i)
 |.str x _=>some (.str x)
 |.bytes b _=>some (.byt b)
 |.float b _=>some (.flt b)
 |.ref a=>some (.ref a)
 |.type n=>some (.ty n)
 |_=>none
theorem RelV.abs{x:V}(r:RelV x u):absV u=some x:=by
 cases x with
 |non=>cases r;rfl
 |bl _=>cases r;rfl
 |int _=>obtain⟨t,rfl⟩:=r;rfl
 |str _=>obtain⟨t,rfl⟩:=r;rfl
 |byt _=>obtain⟨t,rfl⟩:=r;rfl
 |flt _=>obtain⟨t,rfl⟩:=r;rfl
 |ref _=>cases r;rfl
 |ty _=>cases r;rfl
theorem RelV.inj{x:V}(r:RelV x u)(q:RelV y u):x=y:=Y5 (r.abs.symm.trans q.abs)
theorem Vals.inj(h:Vals xs us)(g:Vals ys us):xs=ys:=by
 induction h generalizing ys with
 |nil=>cases g;rfl
 |cons r t ih=>
  cases g with
  |cons r' t'=>rw[r.inj r',ih t']
section
variable{σ:St}
theorem Inv.list(I:qI H s)(h:SqL X.K H a xs):∃its:List Value,Vals xs its/\PlainL s.heap a its.toArray/\xs.length<=sizeLine:=by
 rcases h with h | ⟨o,its,n,b,c,d,f,g,r⟩
 .obtain⟨z,its,n,r,e⟩:=h.ok I.hok
  exists its,r,⟨_,n,e,rfl,rfl,rfl⟩,z
 .refine⟨its.toList,r,⟨o,n,I.kIn a o b,c,d,by simpa using f⟩,?_⟩
  have e:=r.length
  simp only[jQe]at e
  lia
theorem Inv.tuple(I:qI H s)(h:SqT X.K H a xs):∃its:List Value,Vals xs its/\IsTup s.heap a its.toArray/\xs.length<=sizeLine:=by
 rcases h with h | ⟨o,its,n,b,c,d,f,r⟩
 .obtain⟨z,its,r,p⟩:=h.ok I.hok
  exists its,r,p,z
 .refine⟨its.toList,r,⟨o,I.kIn a o b,c,n,by simpa using d⟩,?_⟩
  have e:=r.length
  simp only[jQe]at e
  lia
theorem Inv.list_inj(I:qI H s)(h:SqL X.K H a xs)(h':SqL X.K H a ys):xs=ys:=by
 obtain⟨c,r,⟨o,n,e,_,_,d⟩,_⟩:=I.list h
 obtain⟨b,j,⟨k,l,f,_,_,g⟩,_⟩:=I.list h'
 rw[e]at f;cases f
 rw[d]at g
 injection g with i _
 have:c=b:=by simpa using congrArg Array.toList i
 subst this
 exact r.inj j
theorem Inv.tuple_inj(I:qI H s)(h:SqT X.K H a xs)(h':SqT X.K H a ys):xs=ys:=by
 obtain⟨c,r,⟨o,e,_,n,d⟩,_⟩:=I.tuple h
 obtain⟨b,j,⟨k,f,_,l,g⟩,_⟩:=I.tuple h'
 rw[e]at f;cases f
 rw[d]at g
 injection g with i _
 have:c=b:=by simpa using congrArg Array.toList i
 subst this
 exact r.inj j
end
abbrev Cx.wish(X:Cx)(E:VP):Cx:={ X with xe:=E }
abbrev Cx.nox(X:Cx):Cx:=X.wish fun _ _=>False
theorem Cx.Ok.wish(ok:X.Ok)(E:VP):(X.wish E).Ok :=
 ⟨ok.mod,ok.kind,ok.glob,ok.blt,ok.above,ok.inj,ok.has,ok.cab,ok.hd,ok.frames,ok.stk,ok.exf,ok.bs,ok.bsz,ok.noex,ok.exfs,ok.funs,ok.frf⟩
theorem Cx.Ok.unwish(ok:(X.wish E).Ok):X.Ok :=
 ⟨ok.mod,ok.kind,ok.glob,ok.blt,ok.above,ok.inj,ok.has,ok.cab,ok.hd,ok.frames,ok.stk,ok.exf,ok.bs,ok.bsz,ok.noex,ok.exfs,ok.funs,ok.frf⟩
section
variable{σ:St}
theorem Inv.wish(I:qI H s)(E:VP):Inv (X.wish E) pins σ H s:=⟨I.ok.wish E,I.os,I.bare,I.base,I.loc,I.cell,I.free,I.freeC,I.pin,I.hok,I.len⟩
theorem Inv.unwish(I:Inv (X.wish E) pins σ H s):qI H s:=⟨I.ok.unwish,I.os,I.bare,I.base,I.loc,I.cell,I.free,I.freeC,I.pin,I.hok,I.len⟩
theorem SP.unwish{D:Ends}{f:Flow}{s':Shared}(h:SP (X.wish E) pins D f s'):SP X pins D f s':=by
 cases f with
 |next=>obtain⟨a,b,I,q⟩:=h;exists a,b,I.unwish,q
 |brk=>obtain⟨a,b,I,q⟩:=h;exists a,b,I.unwish,q
 |cont=>obtain⟨a,b,I,q⟩:=h;exists a,b,I.unwish,q
 |ret u=>obtain⟨v,a,b,I,r,q⟩:=h;exists v,a,b,I.unwish,r,q
theorem PSs.nox{st:List Stmt}{t:TS}(h:PSs X.nox st t):PSs X st t:=fun a s b H D I c=>
 Y29 (h a s b H D (I.wish _) c) (fun _ _ q=>q.unwish) fun _ _ z=>False.elim z
end
section
variable{rest:List Stmt}{t u:TS}{te:TE}
def tNext:TS:=fun D σ H=>D.nx σ H
def tSeq(t u:TS):TS:=fun D σ H=>t { D with nx:=u D } σ H
theorem Qq:PSs X [] tNext:=fun _ _ a H _ I h=>wpAny_execs_nil ⟨a,H,I,h⟩
theorem Qd(e:PS X st t)(d:PSs X rest u):PSs X (st::rest) (tSeq t u):=by
 intro a s g H D I h
 refine wpAny_execs_cons (thn (e a s g H { D with nx:=u D } I h) fun f c q=>?_)
 cases f with
 |next=>
  obtain⟨b,i,j,q⟩:=q
  exact d a c b i D j q
 |ret v=>exact q
 |brk=>exact q
 |cont=>exact q
theorem Qh(c:PS X st t):PSs X [st] t:=by
 intro a s b H D I h
 refine wpAny_execs_cons (thn (c a s b H D I h) fun f d q=>?_)
 cases f with
 |next=>exact wpAny_execs_nil q
 |ret v=>exact q
 |brk=>exact q
 |cont=>exact q
theorem Inv.quiet{σ:St}(I:qI H s):interactive X.env=false:=by simp[interactive,I.ok.kind]
def tDrop(te:TE):TS:=fun D σ H=>te σ H fun _ H1=>D.nx σ H1
theorem Yn(c:PE X e te)(d:qb (swapsWith e none pos.line X.env=pure false)):PS X (.Expr e pos) (tDrop te):=by
 intro a s b H D I h
 exact wpAny_Expr_any (thn (c a s b H _ I h) fun v s1 ⟨x,H1,I1,r1,q1⟩=>⟨b,H1,I1,q1⟩) I.quiet d
def tRet(te:TE):TS:=fun D σ H=>te σ H D.rt
theorem Qp(c:PE X e te):PS X (.Return (some e) pos) (tRet te):=by
 intro a s b H D I h
 exact wpAny_Return_some (thn (c a s b H _ I h) fun v s1 ⟨x,H1,I1,r1,q1⟩=>⟨x,b,H1,I1,r1,q1⟩)
def tIfS(c:TT)(t u:TS):TS:=fun D σ H=>c σ H fun b H1=>if b=true then t D σ H1 else u D σ H1
theorem Xg{c:Expr}{a b:List Stmt}{tc:TT}(m:PT X c tc)(o:PSs X a t)(n:PSs X b u):PS X (.If c a b pos) (tIfS tc t u):=by
 intro e s g H D I h
 refine wpAny_If (thn (m e s g H _ I h) fun d k f=>?_)
 obtain⟨l,j,i⟩:=f
 cases d with
 |true=>exact o e k g l D j i
 |false=>exact n e k g l D j i
end
abbrev TG:=V->St->Hp->(St->Hp->Prop)->Prop
abbrev TGs:=List V->St->Hp->(St->Hp->Prop)->Prop
def PG(X:Cx)(target:Expr)(t:TG):Prop :=
 ∀(pins:Z8) (s:Shared) (σ:St) (H:Hp) (v:V) (u:Value) (Q:St->Hp->Prop),qI H s->RelV v u->t v σ H Q ->
  qd X X.A (assign target X.env u) (fun _ s'=>∃σ' H',Inv X pins σ' H' s'/\Q σ' H') X.xe s
def PGs(X:Cx)(ts:List Expr)(t:TGs):Prop :=
 ∀(pins:Z8) (s:Shared) (σ:St) (H:Hp) (vs:List V) (us:List Value) (Q:St->Hp->Prop),qI H s->Vals vs us->t vs σ H Q ->
  qd X X.A (assignInOrder ((assignEach ts X.env).map (·.2)) us) (fun _ s'=>∃σ' H',Inv X pins σ' H' s'/\Q σ' H') X.xe s
abbrev TSet:=V->V->V->Hp->(Hp->Prop)->Prop
def PSet(X:Cx)(t:TSet):Prop :=
 ∀(pins:Z8) (s:Shared) (σ:St) (H:Hp) (o i v:V) (ov iv u:Value) (Q:Hp->Prop),qI H s->RelV o ov->RelV i iv->RelV v u->t o i v H Q ->
  qd X X.A (setItem ov iv u) (fun _ s'=>∃H',qI H' s'/\Q H') X.xe s
abbrev TIp:=V->V->Hp->VK->Prop
def PIp(X:Cx)(op:Operator)(t:TIp):Prop :=
 ∀(pins:Z8) (s:Shared) (σ:St) (H:Hp) (x y:V) (v u:Value) (Q:VK),qI H s->RelV x v->RelV y u->t x y H Q ->
  qd X X.A (inplaceOp op v u) (EP X pins σ Q) X.xe s
def Qdw(i:Nat):TG:=fun v σ H Q=>Q (σ.set i (some v)) H
theorem Xe(b:X.N.Nodup)(c:X.N[i]?=some x)(f:Loc X.env.scope x)(e:autoParam (X.fn x=true\/qh X x=some .local) J3._auto_1):PG X (.Name x pos) (Qdw i):=by
 intro a s g H v u Q I r h
 exact wpAny_assign_Name (Qdv I b c f r (fun j d=>⟨_,H,d,h⟩) e)
theorem Z3(i:Nat)(a:X.N.Nodup)(b:X.N[i]?=some x:=by exact rfl)(c:autoParam (Loc X.env.scope x) J3._auto_1)(d:autoParam (X.fn x=true\/qh X x=some .local) J3._auto_1):PG X (.Name x pos) (Qdw i):=Xe a b c d
def gNil:TGs:=fun vs σ H Q=>vs=[]/\Q σ H
def Qmb(t:TG)(u:TGs):TGs:=fun vs σ H Q=>∃v r,vs=v::r/\t v σ H fun σ' H'=>u r σ' H' Q
theorem Qhq:PGs X [] gNil:=by
 intro a s b H c d Q I r h
 obtain⟨e,h⟩:=h
 subst e
 cases r
 exact assignInOrder_nil ⟨b,H,I,h⟩
theorem Vm{t:TG}{u:TGs}(l:PG X e t)(k:PGs X es u)
  (n:qb ((assignEach (e::es) X.env).map (·.2)=assign e X.env::(assignEach es X.env).map (·.2))):PGs X (e::es) (Qmb t u):=by
 intro a s m H p q Q I r h
 obtain⟨v,o,i,h⟩:=h
 subst i
 cases r with
 |cons r rr=>
  rw[n]
  refine assignInOrder_cons (thn (l a s m H _ _ _ I r h) fun _ j b=>?_)
  obtain⟨c,f,g,d⟩:=b
  exact k a j c f _ _ Q g rr d
def gTup(K:Fg)(n:Nat)(t:TGs):TG:=fun v σ H Q=>∃a xs,v=.ref a/\SqT K H a xs/\xs.length=n/\t xs σ H Q
theorem Qta{k:Nat}{t:TGs}(j:X.calm=true)(h:PGs X es t)
  (y:qb ((assignEach es X.env).length=n)) (d:qb ((assignEach es X.env).findIdx? (·.1)=none)):PG X (.Tuple es k pos) (gTup X.K n t):=by
 intro c s i H v u Q I r f
 obtain⟨a,w,m,p,q,f⟩:=f
 subst m
 cases r
 obtain⟨x,g,A,C⟩:=I.tuple p
 refine assign_Tuple_tuple (I.ok.hd j) A (by simp[y,<-q,g.length]) d fun z B=>?_
 have l:Inv X c i H { s with heap:=z }:=I.kept (t':=s.toks) fun b o e=>B b o (xQ (zQ e)) e
 exact h c _ i H w _ Q l (by simpa using g) f
def gSub(to ti:TE)(t:TSet):TG:=fun v σ H Q=>to σ H fun o H1=>ti σ H1 fun i H2=>t o i v H2 fun H3=>Q σ H3
theorem Kx{o i:Expr}{to ti:TE}{t:TSet}(n:PE X o to)(k:PE X i ti)(f:PSet X t)
  (w:∀v,assign (.Subscript o i pos) X.env v=(do
   let ov ← holding [v] (eval o X.env)
   let iv ← holding [v,ov] (eval i X.env)
   standAt pos
   holding [v,ov,iv] (setItem ov iv v)
   release [v,ov,iv] []):=by intro _;rfl):PG X (.Subscript o i pos) (gSub to ti t):=by
 intro b s c H v u Q I r h
 rw[w]
 refine jX (Y30 (thn (n b s c H _ I h) fun ov B a=>?_))
 obtain⟨x,D,p,q,A⟩:=a
 refine jX (Y30 (thn (k b B c D _ p A) fun iv z a=>?_))
 obtain⟨y,j,m,d,C⟩:=a
 refine jX (wpAny_standAt (jX (Y30 (thn (f b z c j x y v ov iv u _ m q d r C) fun _ E a=>?_))))
 obtain⟨l,e,g⟩:=a
 exact wpAny_release ⟨c,l,e,g⟩
def tAsg(te:TE)(g:TG):TS:=fun D σ H=>te σ H fun x H1=>g x σ H1 D.nx
theorem Zp{te:TE}{g:TG}(m:PE X e te)(p:PG X tg g)(o:qb (swapsWithSole [tg] e pos.line X.env=pure false))(l:qb (swappedStores [tg] e X.env=pure none))
  (j:qb ((assignEach [tg] X.env).map (·.2)=[assign tg X.env])):PS X (.Assign [tg] e pos) (tAsg te g):=by
 intro a s c H D I h
 refine wpAny_Assign_stores (thn (m a s c H _ I h) fun v i b=>?_) o l
 obtain⟨x,n,f,k,d⟩:=b
 rw[j]
 exact thn (p a i c n x v _ f k d) fun _ r q=>q
theorem Qt{te:TE}(f:X.N.Nodup)(g:X.N[i]?=some x)(o:Loc X.env.scope x)(m:PE X e te)(p:qb (swapsWith e (some (.Name x pos')) pos.line X.env=pure false))(l:autoParam (X.fn x=true\/qh X x=some .local) J3._auto_1) :
  PS X (.Assign [.Name x pos'] e pos) (tAsg te (Qdw i)):=by
 intro a s j H D I h
 refine wpAny_Assign_Name (thn (m a s j H _ I h) fun v r b=>?_) p
 obtain⟨y,n,d,k,c⟩:=b
 exact Qdv d f g o k (fun t q=>⟨_,n,q,c⟩) l
theorem Z4(i:Nat){te:TE}(a:X.N.Nodup)(d:PE X e te)(b:X.N[i]?=some x:=by exact rfl)(f:autoParam (Loc X.env.scope x) J3._auto_1)(g:qb (swapsWith e (some (.Name x pos')) pos.line X.env=pure false))(c:autoParam (X.fn x=true\/qh X x=some .local) J3._auto_1) :
  PS X (.Assign [.Name x pos'] e pos) (tAsg te (Qdw i)):=Qt a b f d g c
def tAug(i:Nat)(te:TE)(ti:TIp):TS:=fun D σ H=>∃x,σ[i]?=some (some x)/\te σ H fun y H1=>ti x y H1 fun z H2=>D.nx (σ.set i (some z)) H2
theorem Qjb{te:TE}{op:Operator}{ti:TIp}(Q:X.N.Nodup)(q:X.N[i]?=some x)(n:Loc X.env.scope x)(J:PE X e te)(L:PIp X op ti)(E:autoParam (X.fn x=true\/qh X x=some .local) J3._auto_1) :
  PS X (.AugAssign (.Name x pos') op e pos) (tAug i te ti):=by
 intro a s o H D I h
 obtain⟨v,P,h⟩:=h
 obtain⟨m,C,G⟩:=I.loc
 have j:Vis X.env.scope x:=by rcases n with k | k;exact .inl k;exact .inr (.inl k)
 obtain⟨u,r,l⟩:=G i x v q P j
 refine wpAny_AugAssign_Name ?_
 have p:qd X X.A (eval e X.env) (fun w f=>qd X X.A (inplaceOp op u w) (fun r g=>qd X X.A (storeName X.env x r) (fun _=>SP X a D .next) X.xe g) X.xe f) X.xe s:=by
  refine thn (J a s o H _ I h) fun w T b=>?_
  obtain⟨y,V,O,R,S⟩:=b
  refine thn (L a T o V v y u w _ O r R S) fun z Z b=>?_
  obtain⟨zv,F,K,t,U⟩:=b
  exact Qdv K Q q n t (fun Y B=>⟨_,F,B,U⟩) E
 rcases l with⟨hk,W⟩ | ⟨hk,c,M,d⟩
 .exact wpAny_loadName_local I.ok.kind hk C W p
 .rcases hk with hk | hk
  .exact wpAny_loadName_cell I.ok.kind hk M d p
  .rcases n with k | k
   .have:qh X x=some .free:=hk
    rw[k]at this;cases this
   .have:qh X x=some .free:=hk
    rw[k]at this;cases this
def tAugS(to ti te:TE)(tget:V->V->Hp->VK->Prop)(tip:TIp)(tset:TSet):TS:=fun D σ H=>to σ H fun o H1=>ti σ H1 fun i H2=>tget o i H2 fun x H3=>te σ H3 fun y H4=>tip x y H4 fun z H5=>tset o i z H5 fun H6=>D.nx σ H6
def PGet(X:Cx)(t:V->V->Hp->VK->Prop):Prop :=
 ∀(pins:Z8) (s:Shared) (σ:St) (H:Hp) (o i:V) (ov iv:Value) (Q:VK),qI H s->RelV o ov->RelV i iv->t o i H Q ->
  qd X X.A (getItem ov iv) (EP X pins σ Q) X.xe s
theorem Qmc{o i:Expr}{to ti te:TE}{tget:V->V->Hp->VK->Prop}{tip:TIp}{tset:TSet}{op:Operator}{tpos:Pos}(F:PE X o to)(x:PE X i ti)(t:PGet X tget)(A:PE X e te)(L:PIp X op tip)(r:PSet X tset)
  (Q:∀ov iv new,augStore i ov iv new=(do holding [new,ov,iv] (setItem ov iv new);release [new,ov,iv] [];pure .next):=by intros;rfl):PS X (.AugAssign (.Subscript o i tpos) op e pos) (tAugS to ti te tget tip tset):=by
 intro a s c H D I h
 refine wpAny_AugAssign_SubscriptAny (thn (F a s c H _ I h) fun ov U b=>?_) Q
 obtain⟨k,Z,J,j,S⟩:=b
 refine thn (x a U c Z _ J S) fun iv R b=>?_
 obtain⟨g,w,E,f,Y⟩:=b
 refine thn (t a R c w k g ov iv _ E j f Y) fun d G b=>?_
 obtain⟨B,C,p,O,u⟩:=b
 refine thn (A a G c C _ p u) fun v m b=>?_
 obtain⟨K,P,q,M,n⟩:=b
 refine thn (L a m c P B K d v _ q O M n) fun new N b=>?_
 obtain⟨l,z,W,y,T⟩:=b
 exact thn (r a N c z k g l ov iv new _ W j f y T) fun _ s6 ⟨H6,I6,q6⟩=>⟨c,H6,I6,q6⟩
def ipI(f:Int->Int->Int):TIp:=fun x y H Q=>∃i j,x=.int i/\y=.int j/\Q (.int (f i j)) H
theorem Qmd:PIp X .Add (ipI fun i j=>i+j):=by
 intro a s f H x y v u Q I d c h
 obtain⟨i,j,b,e,q⟩:=h
 subst b;subst e
 obtain⟨t,rfl⟩:=d
 obtain⟨g,rfl⟩:=c
 exact iadd_int ⟨.int _,H,I.tok _,⟨_,rfl⟩,q⟩
theorem Qtb:PIp X .Sub (ipI fun i j=>i-j):=by
 intro a s f H x y v u Q I d c h
 obtain⟨i,j,b,e,q⟩:=h
 subst b;subst e
 obtain⟨t,rfl⟩:=d
 obtain⟨g,rfl⟩:=c
 exact isub_int ⟨.int _,H,I.tok _,⟨_,rfl⟩,q⟩
set_option genInjectivity false in
set_option genInjectivity false in
structure It where
 go:Nat->Hp->Prop
 yld:Nat->Hp->V->Hp->Prop
 stop:Nat->Hp->Prop
def FpOk(X:Cx)(pins:Z8)(H:Hp)(b:Addr):Prop :=
 H b=none/\b≠X.env.locals/\b∉X.fs/\(b∈X.ex\/X.s₀.heap.objs.size<=b)/\(∀x c,X.env.cells.lookup x=some c->c≠b)/\∀p∈X.pn++pins,p.1≠b
theorem Inv.fpOk{σ:St}(I:qI H s)(a:(qa s)<=b)(f:H' b=none):FpOk X pins H' b:=by
 exists f,Nat.ne_of_gt (xV I.lt a),I.nofs a,.inr (jZf I.sz a),fun x c e z=>?_,fun p d z=>?_
 .obtain⟨v,q⟩:=I.cell x c e
  exact Y21 (xV q.lt (by rw[z];exact a)) (jKf _)
 .exact Y21 (xV (zQ (I.pin p d).1) (by rw[z];exact a)) (jKf _)
structure Turn(P:Program)(w:World)(K:Fg)(tg:Expr)(J:It)(fp:List Addr)(it:Addr)(tn:Nat->Heap->Prop):Prop where
 mem:it∈fp
 obj:∀i h,tn i h->∀b∈fp,∃o,h.get? b=some o/\∀v,o.data≠.cell v
 keep:∀i h h',tn i h->(∀b∈fp,∀o,h.get? b=some o->h'.get? b=some o)->tn i h'
 item:∀(X:Cx),X.prog=P->X.w=w->X.K=K->X.calm=true->∀(i:Nat) (pins:Z8) (s:Shared) (σ:St) (H:Hp) (E:VP),qI H s->(∀b∈fp,FpOk X pins H b)->tn i s.heap->J.go i H ->
  qe P w X.A (pyNext (.ref it)) (fun r s1=>∃u,r=some u /\
   qe P w X.A (letOwnedTupleGo tg (.ref it) u) (fun _ s2=>∃x H',qI H' s2/\RelV x u/\J.yld i H x H'/\tn (i+1) s2.heap/\∀b∈fp,H' b=none) E s1) E s
 done:∀(X:Cx),X.prog=P->X.w=w->X.K=K->X.calm=true->∀(i:Nat) (pins:Z8) (s:Shared) (σ:St) (H:Hp) (E:VP),qI H s->(∀b∈fp,FpOk X pins H b)->tn i s.heap->J.stop i H ->
  qe P w X.A (pyNext (.ref it)) (fun r s1=>r=none/\qI H s1) E s
 self:∀(A:Around) (i:Nat) (s:Shared) (Q:VP) (E:VP),tn i s.heap->Q (.ref it) s->qe P w A (pyIter (.ref it)) Q E s
abbrev TI:=St->Hp->(It->Hp->Prop)->Prop
def PIE(X:Cx)(pins:Z8)(σ:St)(tg:Expr)(R:It->Hp->Prop)(itv:Value)(s2:Shared):Prop :=
 ∃(it:Addr) (fp:List Addr) (tn:Nat->Heap->Prop) (J:It) (H':Hp),itv=.ref it/\qI H' s2/\Turn X.prog X.w X.K tg J fp it tn/\tn 0 s2.heap/\(∀b∈fp,FpOk X pins H' b)/\R J H'
def PI(X:Cx)(tg iter:Expr)(wi:TI):Prop :=
 ∀(pins:Z8) (s:Shared) (σ:St) (H:Hp) (R:It->Hp->Prop),qI H s->wi σ H R ->
  qd X X.A (eval iter X.env) (fun v s1=>qd X X.A (pyIter v) (PIE X pins σ tg R) X.xe s1) X.xe s
theorem Qqf{M:Model}       {o:Obj} {n:String} {vs:Array Value} {Q:Unit->Shared->Prop} (e:s.heap.get? it=some o) (b:o.cls=.type n) (d:o.data=.fields vs)
    (c:["enumerate","zip","dict_itemiterator","dict_reverseitemiterator","odict_iterator","itertools.zip_longest","itertools.pairwise"].contains n=false) (a:Q () s):wpAny M A (letOwnedTupleGo tg (.ref it) u) Q E s:=by
  unfold letOwnedTupleGo
  cases tg<;>first
    |exact kQ a
    | (cases u <;> first
        |exact kQ a
        | (refine jX (wpAny_load e ?_)
           rw[b,d]
           show wpAny M A (if (["enumerate","zip","dict_itemiterator","dict_reverseitemiterator","odict_iterator","itertools.zip_longest","itertools.pairwise"].contains n&&vs[0]? == some (rawInt _))=true then _ else _) Q E s
           rw[Y20 (by intro h;rw[c,Bool.false_and]at h;cases h)]
           exact kQ a))
def Itl(K:Fg)(a:Addr):It :=
 ⟨fun i H=>∃xs x,SqL K H a xs/\xs[i]?=some x,fun i H x H'=>H'=H/\∀xs,SqL K H a xs->xs[i]?=some x,fun i H=>∃xs,SqL K H a xs/\xs.length<=i⟩
def Itt(K:Fg)(a:Addr):It :=
 ⟨fun i H=>∃xs x,SqT K H a xs/\xs[i]?=some x,fun i H x H'=>H'=H/\∀xs,SqT K H a xs->xs[i]?=some x,fun i H=>∃xs,SqT K H a xs/\xs.length<=i⟩
def Itr(lo:Int)(n:Nat):It:=⟨fun i _=>i<n,fun i H x H'=>H'=H/\x=.int (lo+i),fun i _=>n<=i⟩
theorem Qme(a j:Addr):Turn P w K tg (Itl K a) [j] j (fun i h=>h.IsListIter j a i) where
 mem:=by simp
 obj:=fun i h f b l=>by
  have e:b=j:=by simpa using l
  subst e
  obtain⟨o,e,c,d⟩:=f
  exists o,e,fun v z=>by rw[d]at z;cases z
 keep:=fun i h q f k=>f.at fun o e=>k j (by simp) o e
 item:=by
  intro X J G N R i g s Q H E I n f A
  subst J G N
  obtain⟨Z,x,r,O⟩:=A
  obtain⟨L,D,p,U⟩:=I.list r
  obtain⟨u,hu,Y⟩:=D.get O
  obtain⟨B,F,S,M,C,y⟩:=n j (by simp)
  refine wpAny_pyNext_list_item f p.isList (x:=u) (by simpa using hu) fun q m W=>?_
  have V:Inv X g Q H { s with heap:=q }:=I.turned (t':=s.toks) (fun b o l e=>(W.2 b l).trans e) B F M C y
  obtain⟨o,e,c,d⟩:=id m
  exists u,rfl,Qqf (s:={ s with heap:=q }) e c d Dc ⟨x,H,V,Y,⟨rfl,fun ys hy=>by rw[I.list_inj hy r];exact O⟩,m,fun b l=>(n b l).1⟩
 done:=by
  intro X J G N R i g s Q H E I n f A
  subst J G N
  obtain⟨Z,r,O⟩:=A
  obtain⟨L,D,p,U⟩:=I.list r
  obtain⟨B,F,S,M,C,y⟩:=n j (by simp)
  have hl:=D.length
  exact wpAny_pyNext_list_end (I.ok.hd R) f p.isList (by simp;lia) fun q T=>⟨rfl,I.turned (t':=s.toks) (fun b o l e=>T b o l e) B F M C y⟩
 self:=fun _ _ _ _ _ f h=>wpAny_pyIter_listiter f h
theorem Qkt(a j:Addr):Turn P w K tg (Itt K a) [j] j (fun i h=>h.IsTupleIter j a i) where
 mem:=by simp
 obj:=fun i h f b m=>by
  have e:b=j:=by simpa using m
  subst e
  obtain⟨o,e,c,d⟩:=f
  exists o,e,fun v z=>by rw[d]at z;cases z
 keep:=fun i h r f k=>f.at fun o e=>k j (by simp) o e
 item:=by
  intro X L J N R i g s Q H E I q f B
  subst L J N
  obtain⟨Z,x,y,O⟩:=B
  obtain⟨l,F,p,U⟩:=I.tuple y
  obtain⟨u,hu,Y⟩:=F.get O
  obtain⟨C,G,S,M,D,A⟩:=q j (by simp)
  refine wpAny_pyNext_tuple_item f (show s.heap.IsTuple a l.toArray from p) (x:=u) (by simpa using hu) fun r n W=>?_
  have V:Inv X g Q H { s with heap:=r }:=I.turned (t':=s.toks) (fun b o m e=>(W.2 b m).trans e) C G M D A
  obtain⟨o,e,c,d⟩:=id n
  exists u,rfl,Qqf (s:={ s with heap:=r }) e c d Dc ⟨x,H,V,Y,⟨rfl,fun ys hy=>by rw[I.tuple_inj hy y];exact O⟩,n,fun b m=>(q b m).1⟩
 done:=by
  intro X L J N R i g s Q H E I q f B
  subst L J N
  obtain⟨Z,y,O⟩:=B
  obtain⟨l,F,p,U⟩:=I.tuple y
  obtain⟨C,G,S,M,D,A⟩:=q j (by simp)
  have hl:=F.length
  exact wpAny_pyNext_tuple_end (I.ok.hd R) f (show s.heap.IsTuple a l.toArray from p) (by simp;lia) fun r T=>⟨rfl,I.turned (t':=s.toks) (fun b o m e=>T b o m e) C G M D A⟩
 self:=fun _ _ _ _ _ f h=>wpAny_pyIter_tupleiter f h
theorem Qku(d:Addr)(lo:Int)(n:Nat):Turn P w K tg (Itr lo n) [d] d (fun i h=>IsRangeIter h d (lo+(i:Nat)*1) ((n:Int)-(i:Nat)) 1) where
 mem:=by simp
 obj:=fun i h a b f=>by
  have e:b=d:=by simpa using f
  subst e
  exact⟨_,a,fun v z=>by
   have J:Data.fields _=Data.cell v:=z
   cases J⟩
 keep:=fun i h l a k=>k d (by simp) _ a
 item:=by
  intro X A y C u i c s D H E I j a p
  subst A y C
  obtain⟨q,x,G,B,r,m⟩:=j d (by simp)
  have W:=Walks.range (prog:=X.prog) (w:=X.w) (I.ok.hd u) d lo 1 n
  refine W.item i s _ _ p a fun v l F hv g L=>?_
  obtain⟨t,rfl⟩:=hv
  have N:Inv X c D H { s with heap:=l,toks:=F }:=I.turned (fun b o f e=>L b o (by simpa using f) e) q x B r m
  exists 4,Qqf (s:={ s with heap:=l,toks:=F }) (n:="range_iterator") g rfl rfl Dc ⟨.int (lo+i),H,N,⟨t,?_⟩,⟨rfl,rfl⟩,g,fun b f=>(j b f).1⟩
  rw[Int.mul_one]
 done:=by
  intro X A y C u i c s D H E I j a p
  subst A y C
  obtain⟨q,x,G,B,r,m⟩:=j d (by simp)
  exact wpAny_pyNext_range_end (I.ok.hd u) a (by have:n<=i:=p;lia) fun l M=>⟨rfl,I.turned (t':=s.toks) (fun b o f e=>M b o f e) q x B r m⟩
 self:=fun _ _ _ _ _ a h=>wpAny_pyIter_rangeiter a h
def iList(K:Fg)(tl:TE):TI:=fun σ H R=>tl σ H fun x H1=>∃a,x=.ref a/\(∃xs,SqL K H1 a xs)/\R (Itl K a) H1
def iTup(K:Fg)(tl:TE):TI:=fun σ H R=>tl σ H fun x H1=>∃a,x=.ref a/\(∃xs,SqT K H1 a xs)/\R (Itt K a) H1
theorem Xq{l:Expr}{tl:TE}(m:PE X l tl):PI X tg l (iList X.K tl):=by
 intro c s r H R I h
 refine thn (m c s r H _ I h) fun v f g=>?_
 obtain⟨x,w,d,n,i⟩:=g
 obtain⟨a,e,⟨z,j⟩,q⟩:=i
 subst e
 cases n
 obtain⟨k,y,p,A⟩:=d.list j
 refine wpAny_pyIter_list p.isList ?_
 exists (qa f),[(qa f)],_,_,w,rfl,d.kept (t':=f.toks) fun b o e=>jK _ e,Qme a _,⟨_,yZ _ rfl,rfl,rfl⟩,fun b u=>?_,q
 have e:b=(qa f):=by simpa using u
 subst e
 exact d.fpOk (jJ _) (d.hok.fresh (jJ _))
theorem Qaw{l:Expr}{tl:TE}(m:PE X l tl):PI X tg l (iTup X.K tl):=by
 intro d s r H R I h
 refine thn (m d s r H _ I h) fun v c g=>?_
 obtain⟨x,w,f,n,j⟩:=g
 obtain⟨a,e,⟨z,k⟩,q⟩:=j
 subst e
 cases n
 obtain⟨i,y,p,A⟩:=f.tuple k
 refine wpAny_pyIter_tuple (show c.heap.IsTuple a i.toArray from p) ?_
 exists (qa c),[(qa c)],_,_,w,rfl,f.kept (t':=c.toks) fun b o e=>jK _ e,Qkt a _,⟨_,yZ _ rfl,rfl,rfl⟩,fun b u=>?_,q
 have e:b=(qa c):=by simpa using u
 subst e
 exact f.fpOk (jJ _) (f.hok.fresh (jJ _))
theorem Qqg{σ:St}{R:It->Hp->Prop}{lo hi:Int}{t u v:Tok}{tk:Nat}(I:qI H s)(f:-(2 ^ 62)<=lo)(d:lo<2 ^ 62)(h:-(2 ^ 62)<=hi)(i:hi<2 ^ 62)
  (q:R (Itr lo (hi-lo).toNat) H):qd X X.A (pyIter (.ref (qa s))) (PIE X pins σ tg R) E { s with heap:=s.heap.push { cls:=.type "range",data:=.fields #[.int lo t,.int hi u,.int 1 v] },toks:=tk }:=by
 refine wpAny_pyIter_range (IsRange.new ..) (small_one f d h i) ?_
 have a:qI H { s with heap:=s.heap.push { cls:=.type "range",data:=.fields #[.int lo t,.int hi u,.int 1 v] },toks:=tk }:=I.kept fun b o e=>jK _ e
 refine⟨(s.heap.push { cls:=.type "range",data:=.fields #[.int lo t,.int hi u,.int 1 v] }).objs.size,[(s.heap.push { cls:=.type "range",data:=.fields #[.int lo t,.int hi u,.int 1 v] }).objs.size],_,_,H,rfl,
  a.kept (t':=tk) fun b o e=>jK _ e,Qku _ lo (hi-lo).toNat,?_,fun b j=>?_,q⟩
 .have c:lo+((0:Nat):Int)*1=lo:=by simp
  have g:(((hi-lo).toNat:Nat):Int)-((0:Nat):Int)=Builtin.Range.rangeSize lo hi 1:=by rw[rangeSize_one];split<;>lia
  show IsRangeIter _ _ (lo+((0:Nat):Int)*1) ((((hi-lo).toNat:Nat):Int)-((0:Nat):Int)) 1
  rw[c,g]
  exact yZ _ rfl
 .have e:b=(s.heap.push { cls:=.type "range",data:=.fields #[.int lo t,.int hi u,.int 1 v] }).objs.size:=by simpa using j
  subst e
  exact a.fpOk (jJ _) (a.hok.fresh (jJ _))
def iRng1(ta:TA):TI:=fun σ H R=>ta σ H fun vs H1=>∃j:Int,vs=[.int j]/\-(2 ^ 62)<=j/\j<2 ^ 62/\R (Itr 0 j.toNat) H1
theorem Yt{a:Expr}{ta:TA}{p:Pos}(n:Gl X "range")(o:X.mg "range"=none)(m:PA X [a] ta)(f:qb (starEach [a] X.env=[(false,eval a X.env)])):PI X tg (.Call (.Name "range" p) [a] [] pos) (iRng1 ta):=by
 intro b s k H R I h
 refine Call_ (Qav I n o boot_range (PyProof.Rows.callWith_type1 (thn (m pos b s k H _ I h) fun x v d=>?_) f rfl))
 obtain⟨u,w,g,i,c⟩:=d
 obtain⟨j,e,c,l,q⟩:=c
 subst e
 cases i with
 |cons r rr=>
  cases rr
  obtain⟨t,rfl⟩:=r
  exact call_range_1 (Qqg g Om Om c l (by simpa using q))
def tFor(wi:TI)(g:TG)(tb:TS):TS:=fun D σ H=>wi σ H fun J H1=>∃W:Nat->Nat->St->Hp->Prop,(∃m,W 0 m σ H1)/\∀i m σ H,W i m σ H ->
 (J.stop i H/\D.nx σ H)\/(J.go i H/\∃N:St->Hp->Prop,(∀σ' H',N σ' H'->∃m',m'<m/\W (i+1) m' σ' H')/\∀x H',J.yld i H x H'->g x σ H' fun σ2 H2=>tb { D with nx:=N,ct:=N,bk:=D.nx } σ2 H2)
def Qfs(fp:List Addr)(h:Heap):Z8:=fp.filterMap fun b=>(h.get? b).map fun o=>(b,o)
theorem Vn{o:Obj}(a:b∈fp)(e:h.get? b=some o):(b,o)∈Qfs fp h:=List.mem_filterMap.mpr ⟨b,a,by rw[e];rfl⟩
theorem Qmf{p:Addr×Obj}(a:p∈Qfs fp h):p.1∈fp/\h.get? p.1=some p.2:=by
 obtain⟨b,c,e⟩:=List.mem_filterMap.mp a
 cases q:h.get? b with
 |none=>rw[q]at e;cases e
 |some o=>
  rw[q]at e
  have d:(b,o)=p:=Y5 e
  subst d
  exists c,q
theorem Inv.pinned{σ:St}(I:qI H s)(i:∀b∈fp,FpOk X pins H b)(k:∀b∈fp,∃o,s.heap.get? b=some o/\∀v,o.data≠.cell v):Inv X (pins++Qfs fp s.heap) σ H s :=
 I.pins_of fun p f=>(xK.mp f).elim (fun z=>I.pin p (jQd _ z)) fun z=>by
  obtain⟨c,e⟩:=Qmf z
  obtain⟨h,g,j,_⟩:=i p.1 c
  obtain⟨o,a,d⟩:=k p.1 c
  rw[e]at a;cases a
  exists e,h,g,j,d
theorem Inv.unpinned{pl:Z8}{σ:St}(I:Inv X (pins++pl) σ H s):qI H s:=I.pins_of fun p a=>I.pin p (jQd _ (kKb _ a))
theorem Yo{body:List Stmt}{wi:TI}{g:TG}{tb:TS}(M:PassesOwn (model X.prog X.w) X.A X.env X.xe)(hc:X.calm=true)(hi:PI X tg iter wi)(hg:PG X tg g)(y:PSs X body tb)
  (hs:autoParam (∀x,foldedSetIterable iter X.env x=pure x) J4._auto_1):PS X (.For tg iter body [] pos) (tFor wi g tb):=by
 intro a s Z H D I h
 refine wpAny_For (thn (hi a s Z H _ I h) fun v s1 h1=>thn h1 fun aa s2 h2=>?_) hs
 obtain⟨it,L,Y,J,H2,e,I2,T,U,f2,W,⟨m0,w0⟩,G⟩:=h2
 subst e
 -- what stays true of the iterator's objects through the loop
 have k:∀{H':Hp},(∀b∈L,H' b=none)->∀b∈L,FpOk X a H' b:=fun hn b y=>⟨hn b y,(f2 b y).2⟩
 refine codeAny_forLoop_any (fun n s'=>∃i σ' H',Inv X a σ' H' s'/\Y i s'.heap/\(∀b∈L,H' b=none)/\W i n σ' H') ?_ m0 ⟨0,Z,H2,I2,U,fun b y=>(f2 b y).1,w0⟩
 rintro n s3 ⟨i,p,O,I3,C,K,w3⟩
 rcases G i n p O w3 with⟨F,qn⟩ | ⟨go,N,hN,step⟩
 .refine wpAny_passesOwn M (thn (T.done X rfl rfl rfl hc i a s3 p O X.xe I3 (k K) C F) fun r s4 j=>?_)
  obtain⟨Q,I4⟩:=j
  subst Q
  exact wpAny_execs_nil ⟨p,O,I4,qn⟩
 .refine wpAny_passesOwn M (thn (T.item X rfl rfl rfl hc i a s3 p O X.xe I3 (k K) C go) fun r s4 j=>?_)
  obtain⟨u,Q,h4⟩:=j
  subst Q
  refine wpAny_passesOwn M (thn h4 fun _ s5 j=>?_)
  obtain⟨x,H5,I5,r5,y5,B,R⟩:=j
  have S:=I5.pinned (k R) (T.obj _ _ B)
  refine wpAny_passesOwn M (thn (hg _ s5 p H5 x u _ S r5 (step x H5 y5)) fun _ s6 j=>?_)
  obtain⟨V,H6,I6,q6⟩:=j
  refine wpAny_passesOwn M (thn (y _ s6 V H6 _ I6 q6) fun f P z=>?_)
  have q:∀{c:St} {t:Hp},Inv X (a++Qfs L s5.heap) c t P->N c t->∃m,m<n/\∃i σ' H',Inv X a σ' H' P/\Y i P.heap/\(∀b∈L,H' b=none)/\W i m σ' H':=fun{c t} l E=>by
   obtain⟨m',hm,w7⟩:=hN c t E
   exists m',hm,i+1,c,t,l.unpinned,T.keep _ _ _ B fun b y o e=>(l.pin (b,o) (jQd _ (jQd _ (Vn y e)))).1,fun b y=>?_,w7
   obtain⟨o,e,d⟩:=T.obj _ _ B b y
   exact(l.pin (b,o) (jQd _ (jQd _ (Vn y e)))).2.1
  cases f with
  |next=>obtain⟨c,t,l,E⟩:=z;exact q l E
  |cont=>obtain⟨c,t,l,E⟩:=z;exact q l E
  |brk=>obtain⟨c,t,l,z⟩:=z;exists c,t,l.unpinned,z
  |ret v=>obtain⟨x7,c,t,l,r7,z⟩:=z;exists x7,c,t,l.unpinned,r7,z
theorem Zd{g:TG}{tb:TS}{D:Ends}{σ:St}(b:Nat->St->Hp->Prop)(j:b 0 σ H)(d:∀i σ H,i<=xs.length->b i σ H->SqL K H a xs)
  (l:∀i x σ H,xs[i]?=some x->b i σ H->g x σ H fun σ2 H2=>tb { D with nx:=b (i+1),ct:=b (i+1),bk:=D.nx } σ2 H2) (k:∀σ H,b xs.length σ H->D.nx σ H) :
  ∃W:Nat->Nat->St->Hp->Prop,(∃m,W 0 m σ H)/\∀i m σ H,W i m σ H ->
   ((Itl K a).stop i H/\D.nx σ H)\/((Itl K a).go i H/\∃N:St->Hp->Prop,(∀σ' H',N σ' H'->∃m',m'<m/\W (i+1) m' σ' H')/\∀x H',(Itl K a).yld i H x H'->g x σ H' fun σ2 H2=>tb { D with nx:=N,ct:=N,bk:=D.nx } σ2 H2):=by
 exists fun i m σ H=>m=xs.length-i/\i<=xs.length/\b i σ H,⟨xs.length,by simp,jZb _,j⟩,?_
 rintro i m σ H ⟨rfl,f,p⟩
 have q:=d i σ H f p
 by_cases c:i<xs.length
 .refine .inr ⟨⟨xs,xs[i],q,by simp[c]⟩,b (i+1),fun σ' H' h=>⟨xs.length-(i+1),Om,rfl,c,h⟩,fun x H' y=>?_⟩
  obtain⟨e,y⟩:=y
  subst e
  exact l i x σ _ (y xs q) p
 .have e:i=xs.length:=Om
  subst e
  exact .inl ⟨⟨xs,q,jJ _⟩,k σ H p⟩
theorem Qmg{g:TG}{tb:TS}{D:Ends}{σ:St}(b:Nat->St->Hp->Prop)(j:b 0 σ H)(d:∀i σ H,i<=xs.length->b i σ H->SqT K H a xs)
  (l:∀i x σ H,xs[i]?=some x->b i σ H->g x σ H fun σ2 H2=>tb { D with nx:=b (i+1),ct:=b (i+1),bk:=D.nx } σ2 H2) (k:∀σ H,b xs.length σ H->D.nx σ H) :
  ∃W:Nat->Nat->St->Hp->Prop,(∃m,W 0 m σ H)/\∀i m σ H,W i m σ H ->
   ((Itt K a).stop i H/\D.nx σ H)\/((Itt K a).go i H/\∃N:St->Hp->Prop,(∀σ' H',N σ' H'->∃m',m'<m/\W (i+1) m' σ' H')/\∀x H',(Itt K a).yld i H x H'->g x σ H' fun σ2 H2=>tb { D with nx:=N,ct:=N,bk:=D.nx } σ2 H2):=by
 exists fun i m σ H=>m=xs.length-i/\i<=xs.length/\b i σ H,⟨xs.length,by simp,jZb _,j⟩,?_
 rintro i m σ H ⟨rfl,f,p⟩
 have q:=d i σ H f p
 by_cases c:i<xs.length
 .refine .inr ⟨⟨xs,xs[i],q,by simp[c]⟩,b (i+1),fun σ' H' h=>⟨xs.length-(i+1),Om,rfl,c,h⟩,fun x H' y=>?_⟩
  obtain⟨e,y⟩:=y
  subst e
  exact l i x σ _ (y xs q) p
 .have e:i=xs.length:=Om
  subst e
  exact .inl ⟨⟨xs,q,jJ _⟩,k σ H p⟩
theorem Kb{lo:Int}{g:TG}{tb:TS}{D:Ends}{σ:St}(a:Nat->St->Hp->Prop)(d:a 0 σ H)
  (h:∀i σ H,i<n->a i σ H->g (.int (lo+i)) σ H fun σ2 H2=>tb { D with nx:=a (i+1),ct:=a (i+1),bk:=D.nx } σ2 H2) (f:∀σ H,a n σ H->D.nx σ H) :
  ∃W:Nat->Nat->St->Hp->Prop,(∃m,W 0 m σ H)/\∀i m σ H,W i m σ H ->
   ((Itr lo n).stop i H/\D.nx σ H)\/((Itr lo n).go i H/\∃N:St->Hp->Prop,(∀σ' H',N σ' H'->∃m',m'<m/\W (i+1) m' σ' H')/\∀x H',(Itr lo n).yld i H x H'->g x σ H' fun σ2 H2=>tb { D with nx:=N,ct:=N,bk:=D.nx } σ2 H2):=by
 exists fun i m σ H=>m=n-i/\i<=n/\a i σ H,⟨n,by simp,jZb _,d⟩,?_
 rintro i m σ H ⟨rfl,j,p⟩
 by_cases b:i<n
 .refine .inr ⟨b,a (i+1),fun σ' H' c=>⟨n-(i+1),Om,rfl,b,c⟩,fun x H' y=>?_⟩
  obtain⟨e,y⟩:=y
  subst e y
  exact h i σ _ b p
 .have e:i=n:=Om
  subst e
  exact .inl ⟨jJ _,f σ H p⟩
abbrev R2:=V->V->Hp->VK->Prop
def OpR(X:Cx)(f:Value->Value->Sem Value)(r:R2):Prop :=
 ∀(pins:Z8) (s:Shared) (σ:St) (H:Hp) (x y:V) (v u:Value) (Q:VK),qI H s->RelV x v->RelV y u->r x y H Q ->
  qd X X.A (f v u) (EP X pins σ Q) X.xe s
def UnR(X:Cx)(f:Value->Sem Value)(r:V->Hp->VK->Prop):Prop :=
 ∀(pins:Z8) (s:Shared) (σ:St) (H:Hp) (x:V) (v:Value) (Q:VK),qI H s->RelV x v->r x H Q ->
  qd X X.A (f v) (EP X pins σ Q) X.xe s
def Jv(X:Cx)(f:Value)(r:List V->Hp->VK->Prop):Prop :=
 ∀(pins:Z8) (s:Shared) (σ:St) (H:Hp) (xs:List V) (us:List Value) (Q:VK),qI H s->Vals xs us->r xs H Q ->
  qd X X.A (call f us) (EP X pins σ Q) X.xe s
def tOp(r:R2)(ta tb:TE):TE:=fun σ H Q=>ta σ H fun x H1=>tb σ H1 fun y H2=>r x y H2 Q
def tUn(r:V->Hp->VK->Prop)(ta:TE):TE:=fun σ H Q=>ta σ H fun x H1=>r x H1 Q
inductive rI(C:Int->Int->Prop)(g:Int->Int->V)(x y:V)(H:Hp)(Q:VK):Prop|mk(i j:Int)(a:x=.int i)(b:y=.int j)(c:C i j)(q:Q (g i j) H):rI C g x y H Q
inductive rI0(g:Int->Int->V)(x y:V)(H:Hp)(Q:VK):Prop|mk(i j:Int)(a:x=.int i)(b:y=.int j)(q:Q (g i j) H):rI0 g x y H Q
def rU(g:Int->V):V->Hp->VK->Prop:=fun x H Q=>∃i,x=.int i/\Q (g i) H
section
variable{a b:Expr}{ta tb:TE}
theorem binT(n:PE X a ta)(m:PE X b tb){σ:St}{R:V->V->Hp->Prop}(I:qI H s)
  (h:ta σ H fun x H1=>tb σ H1 fun y H2=>R x y H2)  {f:Value->Value->Sem Value}
  (k:∀v u s2 x y H2,qI H2 s2->RelV x v->RelV y u->R x y H2->qd X X.A (f v u) Q X.xe s2) :
  qd X X.A (eval a X.env) (fun v s₁=>qd X X.A (eval b X.env) (fun u s₂=>qd X X.A (f v u) Q X.xe s₂) X.xe s₁) X.xe s:=by
 refine thn (n pins s σ H _ I h) fun v g c=>?_
 obtain⟨x,H1,e,j,d⟩:=c
 refine thn (m pins g σ H1 _ e d) fun u s2 c=>?_
 obtain⟨y,H2,o,i,l⟩:=c
 exact k v u s2 x y H2 o j i l
theorem Qu{op:Operator}{r:R2}(m:OpR X (binaryOp op) r)(k:PE X a ta)(i:PE X b tb):PE X (.BinOp a op b pos) (tOp r ta tb):=by
 intro c s g H Q I h
 exact wpAny_BinOp (binT k i I h fun v u d x y e l f j q=>m c d g e x y v u Q l f j q)
theorem Wi{op:UnaryOp}{r:V->Hp->VK->Prop}(e:UnR X (unaryOp op) r)(d:PE X a ta):PE X (.UnaryOp op a pos) (tUn r ta):=by
 intro b s c H Q I h
 exact UnaryOp_ (thn (d b s c H _ I h) fun v s1 ⟨x,H1,I1,r1,q1⟩=>e b s1 c H1 x v Q I1 r1 q1)
theorem opI{f:Value->Value->Sem Value}{C:Int->Int->Prop}{g:Int->Int->Int}
  (a:∀(i j:Int) (t u:Tok) (s:Shared) (Q:VP) (E:VP),C i j->Q (.int (g i j) s.toks) { s with toks:=s.toks+1 }->qd X X.A (f (.int i t) (.int j u)) Q E s) :
  OpR X f (rI C fun i j=>.int (g i j)):=by
 intro b s l H x y v u Q I k d h
 obtain⟨i,j,rfl,rfl,c,q⟩:=h
 obtain⟨t,rfl⟩:=k
 obtain⟨e,rfl⟩:=d
 exact a i j t e s _ _ c ⟨.int (g i j),H,I.tok _,⟨_,rfl⟩,q⟩
theorem opI0{f:Value->Value->Sem Value}{g:Int->Int->Int}
  (a:∀(i j:Int) (t u:Tok) (s:Shared) (Q:VP) (E:VP),Q (.int (g i j) s.toks) { s with toks:=s.toks+1 }->qd X X.A (f (.int i t) (.int j u)) Q E s) :
  OpR X f (rI0 fun i j=>.int (g i j)):=by
 intro b s k H x y v u Q I e c h
 obtain⟨i,j,rfl,rfl,q⟩:=h
 obtain⟨t,rfl⟩:=e
 obtain⟨d,rfl⟩:=c
 exact a i j t d s _ _ ⟨.int (g i j),H,I.tok _,⟨_,rfl⟩,q⟩
theorem opB0{f:Value->Value->Sem Value}{g:Int->Int->Bool}
  (a:∀(i j:Int) (t u:Tok) (s:Shared) (Q:VP) (E:VP),Q (.bool (g i j)) s->qd X X.A (f (.int i t) (.int j u)) Q E s) :
  OpR X f (rI0 fun i j=>.bl (g i j)):=by
 intro b s k H x y v u Q I e c h
 obtain⟨i,j,rfl,rfl,q⟩:=h
 obtain⟨t,rfl⟩:=e
 obtain⟨d,rfl⟩:=c
 exact a i j t d s _ _ ⟨.bl (g i j),H,I,rfl,q⟩
def CDiv(i j:Int):Prop:=0<j/\j<1073741824
def CMul(i j:Int):Prop:=(-(2 ^ 64)<i/\i<2 ^ 64)\/(-(2 ^ 64)<j/\j<2 ^ 64)
theorem CMul.ok{i j:Int}(h:CMul i j):IntMulOk i j:=by
 rcases h with⟨b,a⟩ | ⟨b,a⟩
 .exact .of_left (intBits_le_64 b a)
 .exact .of_right (intBits_le_64 b a)
theorem Yp:OpR X (binaryOp .Add) (rI0 fun i j=>.int (i+j)):=opI0 fun _ _ _ _ _ _ _ q=>add_int q
theorem Ys:OpR X (binaryOp .Sub) (rI0 fun i j=>.int (i-j)):=opI0 fun _ _ _ _ _ _ _ q=>sub_int q
theorem Wj:OpR X (binaryOp .Mult) (rI CMul fun i j=>.int (i*j)):=opI fun _ _ _ _ _ _ _ a q=>mul_int q a.ok
theorem Zq:OpR X (binaryOp .FloorDiv) (rI CDiv fun i j=>.int (i / j)):=opI fun i j _ _ _ _ _ a q=>by
 have c:(0:Int)<j:=a.1
 have b:j<1073741824:=a.2
 exact floordiv_int Om (by rw[kQc i Om];exact q) (.inl (PyProof.noPylong_small Om))
theorem Yl:OpR X (binaryOp .Mod) (rI (fun _ j=>0<j) fun i j=>.int (i % j)):=opI fun i j _ _ _ _ _ a q=>by
 have b:(0:Int)<j:=a
 exact mod_int' Om (by rw[Int.fmod_eq_emod_of_nonneg i Om];exact q)
theorem unI{f:Value->Sem Value}{g:Int->Int}
  (a:∀(i:Int) (t:Tok) (s:Shared) (Q:VP) (E:VP),Q (.int (g i) s.toks) { s with toks:=s.toks+1 }->qd X X.A (f (.int i t)) Q E s) :
  UnR X f (rU fun i=>.int (g i)):=by
 intro b s d H x v Q I c h
 obtain⟨i,rfl,q⟩:=h
 obtain⟨t,rfl⟩:=c
 exact a i t s _ _ ⟨.int (g i),H,I.tok _,⟨_,rfl⟩,q⟩
theorem Jr:UnR X (unaryOp .USub) (rU fun i=>.int (-i)):=unI fun _ _ _ _ _ q=>neg_int q
end
def scal:V->V->Bool
 |.non,.non=>true | .non,.int _=>true | .int _,.non=>true | .non,.bl _=>true | .bl _,.non=>true | .non,.str _=>true | .str _,.non=>true
 |.int _,.int _=>true | .bl _,.bl _=>true | .str _,.str _=>true | .byt _,.byt _=>true
 |.int _,.str _=>true | .str _,.int _=>true | .bl _,.str _=>true | .str _,.bl _=>true
 |_,_=>false
def rEq:R2:=fun x y H Q=>scal x y=true/\Q (.bl (decide (x=y))) H
def rNe:R2:=fun x y H Q=>scal x y=true/\Q (.bl (!decide (x=y))) H
theorem Qmh{i j:Int}:decide (V.int i=V.int j)=(i == j):=by
 rw[jXc]
 simp
theorem Qtc{i j:Bool}:decide (V.bl i=V.bl j)=(i == j):=by
 rw[jXc]
 simp
theorem Qmi{i j:Str}:decide (V.str i=V.str j)=(i == j):=by
 rw[jXc]
 simp
theorem Qmj{i j:Array UInt8}:decide (V.byt i=V.byt j)=(i.toList == j.toList):=by
 rw[jXc]
 cases i
 cases j
 simp
section
variable{a b c:Expr}{ta tb tc:TE}
theorem Ya{σ:St}{Q:VK}{k k':Bool}(I:qI H s)(q:Q (.bl k) H)(e:k=k'):EP X pins σ Q (.bool k') s:=by
 subst e
 exists .bl k,H,I,rfl,q
theorem Yh:OpR X (compareOp .Eq) rEq:=by
 intro e s f H x y v u Q I d a h
 obtain⟨c,q⟩:=h
 cases x with
 |non=>
  cases d
  cases y with
  |non=>cases a;exact PySem.EqNone.eq_none_none (Ya I q (by simp))
  |bl j=>cases a;exact PySem.EqNone.eq_none_bool (Ya I q (by simp))
  |int j=>obtain⟨b,rfl⟩:=a;exact PySem.EqNone.eq_none_int (Ya I q (by simp))
  |str j=>obtain⟨b,rfl⟩:=a;exact PySem.EqNone.eq_none_str (Ya I q (by simp))
  |_=>exact Y21 (show false=true from c) yX
 |bl i=>
  cases d
  cases y with
  |non=>cases a;exact PySem.EqNone.eq_bool_none (Ya I q (by simp))
  |bl j=>cases a;exact eq_bool (Ya I q Qtc)
  |str j=>obtain⟨b,rfl⟩:=a;exact PySem.EqMixed.eq_bool_str (Ya I q (by simp))
  |_=>exact Y21 (show false=true from c) yX
 |int i=>
  obtain⟨t,rfl⟩:=d
  cases y with
  |non=>cases a;exact PySem.EqNone.eq_int_none (Ya I q (by simp))
  |int j=>obtain⟨b,rfl⟩:=a;exact eq_int (Ya I q Qmh)
  |str j=>obtain⟨b,rfl⟩:=a;exact PySem.EqMixed.eq_int_str (Ya I q (by simp))
  |_=>exact Y21 (show false=true from c) yX
 |str i=>
  obtain⟨t,rfl⟩:=d
  cases y with
  |non=>cases a;exact PySem.EqNone.eq_str_none (Ya I q (by simp))
  |bl j=>cases a;exact PySem.EqMixed.eq_str_bool (Ya I q (by simp))
  |int j=>obtain⟨b,rfl⟩:=a;exact PySem.EqMixed.eq_str_int (Ya I q (by simp))
  |str j=>obtain⟨b,rfl⟩:=a;exact eq_str (Ya I q Qmi)
  |_=>exact Y21 (show false=true from c) yX
 |byt i=>
  obtain⟨t,rfl⟩:=d
  cases y with
  |byt j=>obtain⟨b,rfl⟩:=a;exact PySem.W.eq_bytes (Ya I q Qmj)
  |_=>exact Y21 (show false=true from c) yX
 |_=>cases y<;>exact Y21 (show false=true from c) yX
theorem Qah:OpR X (compareOp .NotEq) rNe:=by
 intro e s f H x y v u Q I d a h
 obtain⟨c,q⟩:=h
 cases x with
 |non=>
  cases d
  cases y with
  |non=>cases a;exact PySem.EqNone.ne_none_none (Ya I q (by simp))
  |bl j=>cases a;exact PySem.EqNone.ne_none_bool (Ya I q (by simp))
  |int j=>obtain⟨b,rfl⟩:=a;exact PySem.EqNone.ne_none_int (Ya I q (by simp))
  |str j=>obtain⟨b,rfl⟩:=a;exact PySem.EqNone.ne_none_str (Ya I q (by simp))
  |_=>exact Y21 (show false=true from c) yX
 |bl i=>
  cases d
  cases y with
  |non=>cases a;exact PySem.EqNone.ne_bool_none (Ya I q (by simp))
  |bl j=>cases a;exact ne_bool (Ya I q (congrArg not Qtc))
  |str j=>obtain⟨b,rfl⟩:=a;exact PySem.EqMixed.ne_bool_str (Ya I q (by simp))
  |_=>exact Y21 (show false=true from c) yX
 |int i=>
  obtain⟨t,rfl⟩:=d
  cases y with
  |non=>cases a;exact PySem.EqNone.ne_int_none (Ya I q (by simp))
  |int j=>obtain⟨b,rfl⟩:=a;exact ne_int (Ya I q (congrArg not Qmh))
  |str j=>obtain⟨b,rfl⟩:=a;exact PySem.EqMixed.ne_int_str (Ya I q (by simp))
  |_=>exact Y21 (show false=true from c) yX
 |str i=>
  obtain⟨t,rfl⟩:=d
  cases y with
  |non=>cases a;exact PySem.EqNone.ne_str_none (Ya I q (by simp))
  |bl j=>cases a;exact PySem.EqMixed.ne_str_bool (Ya I q (by simp))
  |int j=>obtain⟨b,rfl⟩:=a;exact PySem.EqMixed.ne_str_int (Ya I q (by simp))
  |str j=>obtain⟨b,rfl⟩:=a;exact ne_str (Ya I q (congrArg not Qmi))
  |_=>exact Y21 (show false=true from c) yX
 |byt i=>
  obtain⟨t,rfl⟩:=d
  cases y with
  |byt j=>obtain⟨b,rfl⟩:=a;exact PySem.W.ne_bytes (Ya I q (congrArg not Qmj))
  |_=>exact Y21 (show false=true from c) yX
 |_=>cases y<;>exact Y21 (show false=true from c) yX
theorem Qft:OpR X (compareOp .Lt) (rI0 fun i j=>.bl (decide (i<j))):=opB0 fun _ _ _ _ _ _ _ q=>lt_int q
theorem op_le:OpR X (compareOp .LtE) (rI0 fun i j=>.bl (decide (i<=j))):=opB0 fun _ _ _ _ _ _ _ q=>le_int q
theorem Qub:OpR X (compareOp .Gt) (rI0 fun i j=>.bl (decide (j<i))):=opB0 fun _ _ _ _ _ _ _ q=>gt_int q
theorem Qfu:OpR X (compareOp .GtE) (rI0 fun i j=>.bl (decide (j<=i))):=opB0 fun _ _ _ _ _ _ _ q=>ge_int q
theorem Qax:OpR X (compareOp .Is) (fun x y H Q=>y=.non/\Q (.bl (decide (x=.non))) H):=by
 intro a s d H x y v u Q I b c h
 obtain⟨rfl,q⟩:=h
 cases c
 refine is_none_gen (Ya I q ?_)
 cases x<;>first
  |(cases b;rfl)
  |(obtain⟨t,rfl⟩:=b;rfl)
theorem Qdx:OpR X (compareOp .IsNot) (fun x y H Q=>y=.non/\Q (.bl (!decide (x=.non))) H):=by
 intro a s d H x y v u Q I b c h
 obtain⟨rfl,q⟩:=h
 cases c
 refine isnot_none_gen (Ya I q ?_)
 cases x<;>first
  |(cases b;rfl)
  |(obtain⟨t,rfl⟩:=b;rfl)
theorem OpR.or{f:Value->Value->Sem Value}{r r':R2}(h:OpR X f r)(h':OpR X f r'):OpR X f (fun x y H Q=>r x y H Q\/r' x y H Q):=by
 intro a s b H x y v u Q I d c q
 rcases q with q | q
 .exact h a s b H x y v u Q I d c q
 .exact h' a s b H x y v u Q I d c q
theorem Qs(b:Expr){op:CmpOp}(h:qc (op≠.In))(c:qc (op≠.NotIn)):behindInMarks op b=false:=by
 have d:(op == CmpOp.In)=false:=by cases op<;>first | rfl | exact Y21 rfl h
 have a:(op == CmpOp.NotIn)=false:=by cases op<;>first | rfl | exact Y21 rfl c
 cases b<;>simp[behindInMarks,d,a]
theorem Xz{op:CmpOp}{r:R2}(d:OpR X (compareOp op) r)(l:PE X a ta)(j:PE X b tb)(n:behindInMarks op b=false):PE X (.Compare a [op] [b] pos) (tOp r ta tb):=by
 intro c s i H Q I h
 exact wpAny_Compare1 (binT l j I h fun v u e x y f m g k q=>d c e i f x y v u Q m g k q) n
inductive tTk(Q:Bool->Hp->Prop)(x:V)(H:Hp):Prop|mk(k:Bool)(h:x=.bl k)(q:Q k H):tTk Q x H
def tTest(t:TE):TT:=fun σ H Q=>t σ H (tTk Q)
theorem Qr{op:CmpOp}{r:R2}(g:OpR X (compareOp op) r)(j:PE X a ta)(i:PE X b tb)(l:behindInMarks op b=false):PT X (.Compare a [op] [b] pos) (tTest (tOp r ta tb)):=by
 intro d s f H Q I h
 refine wpAny_isTrue_Compare1 (thn (j d s f H _ I h) fun v s1 ⟨x,H1,I1,r1,q1⟩=>thn (i d s1 f H1 _ I1 q1) fun u s2 ⟨y,H2,I2,r2,q2⟩=>
  thn (g d s2 f H2 x y v u _ I2 r1 r2 q2) fun c s3 ⟨z,H3,I3,r3,k,e,q3⟩=>?_) l
 subst e
 cases r3
 exact Y31 ⟨H3,I3,q3⟩
def tChain(r r':R2)(ta tb tc:TE):TE:=fun σ H Q=>ta σ H fun x H1=>tb σ H1 fun y H2=>r x y H2 fun z H3=>∃k,z=.bl k /\
 (if k=true then tc σ H3 fun w' H4=>r' y w' H4 Q else Q (.bl false) H3)
theorem Qqh{op op':CmpOp}{r r':R2}(m:OpR X (compareOp op) r)(i:OpR X (compareOp op') r')(n:PE X a ta)(j:PE X b tb)(l:PE X c tc)
  (o:lastMarks [op,op'] [b,c]=false:=by with_unfolding_all rfl):PE X (.Compare a [op,op'] [b,c] pos) (tChain r r' ta tb tc):=by
 intro f s g H Q I h
 refine Compare_chain (thn (n f s g H _ I h) fun v s1 ⟨x,H1,I1,r1,q1⟩=>chain_link (thn (j f s1 g H1 _ I1 q1) fun u s2 ⟨y,H2,I2,r2,q2⟩=>
  thn (m f s2 g H2 x y v u _ I2 r1 r2 q2) fun d s3 ⟨z,H3,I3,r3,k,e,q3⟩=>?_)) o
 subst e
 cases r3
 refine Y31 ?_
 cases k with
 |false=>exact ite_ff ⟨.bl false,H3,I3,rfl,q3⟩
 |true=>exact ite_tt (chain_last (thn (l f s3 g H3 _ I3 q3) fun w' s4 ⟨z',H4,I4,r4,q4⟩=>i f s4 g H4 y z' u w' Q I4 r2 r4 q4))
theorem Qfv:(sizeLine:Nat)<2 ^ 63:=by rw[sizeLine_eq];decide
theorem vals1{x:V}(r:Vals [x] us):∃u,us=[u]/\RelV x u:=by
 cases r with
 |cons r1 r2=>cases r2;exists 4,r1
theorem vals2{x:V}(r:Vals [x,y] us):∃u w',us=[u,w']/\RelV x u/\RelV y w':=by
 cases r with
 |cons r1 r2=>
  cases r2 with
  |cons r3 r4=>cases r4;exists _,4,r1,r3
theorem Kc(c:X.calm=true):Jv X (.builtin "max") (fun xs H Q=>∃i j,xs=[.int i,.int j]/\Q (.int (if j > i then j else i)) H):=by
 intro b s f H xs m Q I r h
 obtain⟨i,j,rfl,q⟩:=h
 obtain⟨u,d,rfl,⟨t,rfl⟩,⟨g,rfl⟩⟩:=vals2 r
 refine max_two_ints (I.ok.hd c) fun l e k=>⟨_,H,I.kept k,?_,q⟩
 by_cases a:j > i
 .rw[Y22 a,Y22 a];exists 4
 .rw[Y20 a,Y20 a];exists 4
theorem Qfw(c:X.calm=true):Jv X (.builtin "min") (fun xs H Q=>∃i j,xs=[.int i,.int j]/\Q (.int (if j<i then j else i)) H):=by
 intro b s f H xs m Q I r h
 obtain⟨i,j,rfl,q⟩:=h
 obtain⟨u,d,rfl,⟨t,rfl⟩,⟨g,rfl⟩⟩:=vals2 r
 refine min_two_ints (I.ok.hd c) fun l e k=>⟨_,H,I.kept k,?_,q⟩
 by_cases a:j<i
 .rw[Y22 a,Y22 a];exists 4
 .rw[Y20 a,Y20 a];exists 4
theorem Jp:Jv X (.type "int") (fun xs H Q=>(∃i,xs=[.int i]/\Q (.int i) H)\/∃k,xs=[.bl k]/\Q (.int (if k then 1 else 0)) H):=by
 intro a s c H xs d Q I r h
 rcases h with⟨i,rfl,q⟩ | ⟨k,rfl,q⟩
 .obtain⟨u,rfl,t,rfl⟩:=vals1 r
  exact call_int_int ⟨.int i,H,I,⟨_,rfl⟩,q⟩
 .obtain⟨u,rfl,b⟩:=vals1 r
  cases b
  exact call_int_bool ⟨.int (if k then 1 else 0),H,I.tok _,⟨_,rfl⟩,q⟩
theorem Zu:Jv X (.builtin "divmod") (fun xs H Q=>∃i j,xs=[.int i,.int j]/\CDiv i j/\∀p,H p=none->Q (.ref p) (upd H p (.tup [.int (i / j),.int (i % j)]))):=by
 intro a s k H xs m Q I r h
 obtain⟨i,j,rfl,⟨g,f⟩,q⟩:=h
 obtain⟨u,d,rfl,⟨t,rfl⟩,⟨l,rfl⟩⟩:=vals2 r
 refine divmod_int Om ?_ (.inl (PyProof.noPylong_small Om))
 rw[kQc i Om,Int.fmod_eq_emod_of_nonneg i Om]
 have c:H (qa s)=none:=I.hok.fresh (jJ _)
 exists .ref (qa s),_,?_,rfl,q _ c
 refine I.laid (fun b o e=>jK _ e) (jJ _) ⟨by simp only[zV,kJc];rw[sizeLine_eq];decide,[.int (i / j) s.toks,.int (i % j) (s.toks+1)],.cons ⟨_,rfl⟩ (.cons ⟨_,rfl⟩ .nil),?_⟩
 exists _,yZ s.heap rfl,rfl,0,rfl
end
structure ObjM(h:Heap)(x dx C:Addr)(mA:Z9):Prop where
 obj:h.get? x=some (PySem.W.instObj C dx)
 ns:h.Ns1 dx mA
 ne:dx≠x
theorem Qmk{dx:Addr}(n:h.Ns1 dx mA):∃od,h.get? dx=some od/\∀name,PySem.W.lookIn name od=some (mA name):=by
 obtain⟨o,c,l,f,j,d,_,k⟩:=n
 exists o,f,fun name=>?_
 have e:=k name
 unfold nsFind findBy at e
 rw[<-Array.find?_toList]at e
 unfold PySem.W.lookIn
 rw[j]
 dsimp only
 split
 .rename_i y q
  rw[q]at e
  exact congrArg some e
 .rename_i q
  rw[q]at e
  have a:c.toList.any (·.refKey)=false:=by
   rw[List.any_eq_false]
   intro y i
   obtain⟨z,t,b⟩:=d y (Array.mem_toList_iff.mp i)
   simp[DictEntry.refKey,b]
  have g:¬c.toList.any (·.refKey)=true:=by rw[a];exact yX
  rw[Y20 g]
  exact congrArg some e
theorem ObjM.look{x dx:Addr}(I:ObjM h x dx C mA):∃od,PySem.W.InstAt h x (PySem.W.instObj C dx) C (some od)/\∀name,PySem.W.lookIn name od=some (mA name) :=
 let ⟨od,ho,hl⟩:=Qmk I.ns
 ⟨od,⟨I.obj,rfl,rfl,ho⟩,hl⟩
section
variable{x dx:Addr}{name:Str}{v:Value}
theorem get_map{expr:Bool}(X:K.In s.heap)(I:ObjM s.heap x dx C mA)(e:PySem.W.plainGet K C name=true)(c:PySem.W.hasDictIn K C=true)
  (d:PySem.W.findIn K (.ref C) name=some none) (hv:mA name=some v) (a:PySem.W.handedIn v=true) (h:Q v { s with toks:=s.toks+1 }) :
  qe prog w A (getAttr (.ref x) name expr) Q E s:=by
 obtain⟨f,J,b⟩:=I.look
 exact PySem.W.get_value X J (PySem.W.plainGet_of e).1 (PySem.W.findObj_own c d rfl (by rw[b,hv])) a h
theorem Qqi{pl:Sem Bool}{Q:Value×List Value->Shared->Prop}(X:K.In s.heap)(I:ObjM s.heap x dx C mA)(a:PySem.W.plainGet K C name=true)
  (d:PySem.W.findIn K (.ref C) name=some (some (.ref f))) (e:PySem.W.isFn K (.ref f)=true) (hv:mA name=none) (h:Q (.ref f,[.ref x]) s) :
  qe prog w A (getMethod (.ref x) name pl) Q E s:=by
 obtain⟨b,J,c⟩:=I.look
 exact PySem.W.method_fn X J (PySem.W.plainGet_of a).1 (PySem.W.plainGet_of a).2 d (beq_iff_eq.mp e) (by show(PySem.W.lookIn name b).map (·.isSome)=some false;rw[c,hv];rfl) h
theorem set_map{ns:List Str}{Q:Unit->Shared->Prop}(X:K.In s.heap)(I:ObjM s.heap x dx C mA)
  (k:PySem.W.findIn K (.ref C) "__setattr__"=some (some (.builtin "object.__setattr__"))) (n:PySem.W.plainOver K C=true) (q:PySem.W.takerIn K C name=some none) (p:PySem.W.hasDictIn K C=true)
  (o:PySem.Within mA ns) (hsz:ns.length<=sizeLine)
  (h:∀h',ObjM h' x dx C (fun y=>if y=name then some v else mA y)->Heap.SameBut dx s.heap h'->Q () { s with heap:=h',toks:=s.toks+2 }) :
  qe prog w A (setAttr (.ref x) name v) Q E s:=by
 obtain⟨D,J,B⟩:=I.look
 refine PySem.W.set_plain X J k (PySem.W.osa_open (s:={ s with toks:=s.toks+1 }) (r:=none) X J n q fun b=>?_)
 obtain⟨u,l,e⟩:=PySem.W.any_some p
 have t:s.heap.get? x=some ⟨.ref C,some dx,.plain,#[]⟩:=I.obj
 refine jX (kQ (jX (jX (wpAny_loadPart t (jX (PySem.W.Looks.here (s:={ s with toks:=s.toks+1 }) (PySem.W.looks_clsIn X l) ?_))))))
 rw[e]
 refine kQ (a:=some dx) (jX (kQ (jX ?_)))
 refine wpAny_nsSet1 (s:={ s with toks:=s.toks+1 }) I.ns fun h' d c=>?_
 obtain⟨z,j,m,g,i,f⟩:=d.count (PySem.Within.cons name v o)
 refine jX (wpAny_lookBehind g (by rw[i];exact pastItsLine_dict (jZf f (by rw[zV];lia))) ?_)
 exact kQ (h _ ⟨(c.2 _ (Ne.symm I.ne)).trans I.obj,d,I.ne⟩ c)
theorem Qqj{vs:List Value}(X:K.In s.heap)(e:PySem.W.makesIn K C=true)
  (b:PySem.W.findIn K (.ref C) "__init__"=some (some (.ref f))) (c:PySem.W.typeIn K (.ref f)=some (.type "function"))
  (h:codeAny (model prog w) (A.under (.builtin "type.__call__" ⟨.ref C::vs,kw⟩)) (.call (.ref f) ⟨.ref ((qa s)+1)::vs,kw⟩) (PySem.W.InitBack ((qa s)+1) R)
   { s with heap:=(s.heap.push PySem.W.emptyDict).push (PySem.W.instObj C (qa s)) }) :
  codeAny (model prog w) A (.call (.ref C) ⟨vs,kw⟩) R s:=by
 obtain⟨i,g,d,t,j⟩:=s
 exact PySem.W.make_core (PySem.W.makes_of X e) (PySem.W.looks_findIn X b) (fun a=>PySem.W.bind_fn X a c) (.inl rfl) h
end
def putF(f:Str)(v:V):List (Str×V)->List (Str×V)
 |[]=>[(f,v)]
 |(g,x)::r=>if g=f then(g,v)::r else(g,x)::putF f v r
theorem Xt(f g:Str)(v:V):∀fs:List (Str×V),(putF f v fs).lookup g=if g=f then some v else fs.lookup g
 |[]=>by
  show List.lookup g [(f,v)]=_
  by_cases h:g=f
  .have a:(g == f)=true:=beq_iff_eq.mpr h
   simp only[List.lookup,a,Y22 h]
  .have a:(g == f)=false:=beq_eq_false_iff_ne.mpr h
   simp only[List.lookup,a,Y20 h]
 |(k,x)::r=>by
  have c:=Xt f g v r
  rw[show putF f v ((k,x)::r)=(if k=f then(k,v)::r else(k,x)::putF f v r)from rfl]
  by_cases b:k=f
  .rw[Y22 b]
   by_cases h:g=k
   .have a:(g == k)=true:=beq_iff_eq.mpr h
    simp only[List.lookup,a,Y22 (h.trans b)]
   .have a:(g == k)=false:=beq_eq_false_iff_ne.mpr h
    simp only[List.lookup,a,Y20 (fun e:g=f=>h (e.trans b.symm))]
  .rw[Y20 b]
   by_cases h:g=k
   .have a:(g == k)=true:=beq_iff_eq.mpr h
    simp only[List.lookup,a,Y20 (fun e:g=f=>b (h.symm.trans e))]
   .have a:(g == k)=false:=beq_eq_false_iff_ne.mpr h
    simp only[List.lookup,a]
    exact c
theorem Qbq(f:Str)(v:V):∀fs:List (Str×V),f∈(putF f v fs).map (·.1)/\∀g,g∈fs.map (·.1)->g∈(putF f v fs).map (·.1)
 |[]=>⟨by simp[putF],fun g h=>by simp at h⟩
 |(k,x)::r=>by
  obtain⟨b,c⟩:=Qbq f v r
  rw[show putF f v ((k,x)::r)=(if k=f then(k,v)::r else(k,x)::putF f v r)from rfl]
  by_cases a:k=f
  .rw[Y22 a]
   subst a
   exists by simp,fun g h=>by simpa using h
  .rw[Y20 a]
   exists ?_,fun g h=>?_
   .rw[xX]
    exact yW _ b
   .rw[xX]at h⊢
    rcases yK.mp h with e | e
    .exact yK.mpr (.inl e)
    .exact yW _ (c g e)
theorem Xu(f:Str)(v:V):∀fs:List (Str×V),(putF f v fs).length<=fs.length+1
 |[]=>by simp[putF]
 |(k,x)::r=>by
  have b:=Xu f v r
  rw[show putF f v ((k,x)::r)=(if k=f then(k,v)::r else(k,x)::putF f v r)from rfl]
  by_cases a:k=f
  .rw[Y22 a,zV,zV];lia
  .rw[Y20 a,zV,zV];lia
theorem RelO.some_of{o:Option Value}(r:RelO (some v) o):∃u,o=some u/\RelV v u:=by
 cases o with
 |none=>exact(show False from r).elim
 |some u=>exists u,rfl,r
theorem RelO.none_of{o:Option Value}(r:RelO none o):o=none:=by
 cases o with
 |none=>rfl
 |some u=>exact(show False from r).elim
theorem Qml(r:RelV v u):PySem.W.handedIn u=true:=by
 cases v with
 |non=>cases(show u=Value.none from r);rfl
 |bl b=>cases(show u=Value.bool b from r);rfl
 |int i=>obtain⟨t,e⟩:=(show ∃t,u=Value.int i t from r);cases e;rfl
 |str x=>obtain⟨t,e⟩:=(show ∃t,u=Value.str x t from r);cases e;rfl
 |byt b=>obtain⟨t,e⟩:=(show ∃t,u=Value.bytes b t from r);cases e;rfl
 |flt b=>obtain⟨t,e⟩:=(show ∃t,u=Value.float b t from r);cases e;rfl
 |ref a=>cases(show u=Value.ref a from r);rfl
 |ty n=>cases(show u=Value.type n from r);rfl
section
variable{dx:Addr}{fs:List (Str×V)}
theorem Qhr(b:HOk P w H h)(e:H a=some (.ins C dx fs)):∃mA,ObjM h a dx C mA/\(∀f,RelO (fs.lookup f) (mA f))/\PySem.Within mA (fs.map (·.1))/\fs.length<=1000/\H dx=some (.own a):=by
 obtain⟨d,z,ne,c,mA,n,r,q⟩:=(show ObjOk P w H h a (.ins C dx fs)from b a _ e)
 exists mA,⟨c,n,ne⟩,r,q,z,d
end
structure Cls(K:Fg)(C:Addr):Prop where
 pg:PySem.W.plainGet K C Str.empty=true
 hd:PySem.W.hasDictIn K C=true
 po:PySem.W.plainOver K C=true
 sa:PySem.W.findIn K (.ref C) "__setattr__"=some (some (.builtin "object.__setattr__"))
theorem Cls.get(c:Cls K C)(f:Str):PySem.W.plainGet K C f=true:=c.pg
def NoAttr(K:Fg)(C:Addr)(f:Str):Prop:=PySem.W.findIn K (.ref C) f=some none
theorem NoAttr.taker{f:Str}(n:NoAttr K C f):PySem.W.takerIn K C f=some none:=by
 unfold PySem.W.takerIn
 rw[show PySem.W.findIn K (.ref C) f=some none from n]
 rfl
structure Meth(K:Fg)(C:Addr)(m:Str)(f:Addr):Prop where
 at_:PySem.W.findIn K (.ref C) m=some (some (.ref f))
 fn:PySem.W.isFn K (.ref f)=true
 kp:PySem.W.keepIn K (.ref f)=true
section
variable{σ:St}{dx:Addr}{fs:List (Str×V)}{f:Str}
theorem Qkv{b:Bool}(I:qI H s)(e:H a=some (.ins C dx fs))(c:Cls X.K C)(n:NoAttr X.K C f)(l:fs.lookup f=some v)
  (h:∀u s',qI H s'->RelV v u->Q u s'):qd X A (getAttr (.ref a) f b) Q E s:=by
 obtain⟨g,O,r,_,_,_⟩:=Qhr I.hok e
 obtain⟨u,i,d⟩:=RelO.some_of (v:=v) (o:=g f) (by rw[<-l];exact r f)
 exact get_map I.kIn O (c.get f) c.hd n i (Qml d) (h u _ (I.tok _) d)
theorem Qkw{m:Str}{pl:Sem Bool}{Q:Value×List Value->Shared->Prop}(I:qI H s)(e:H a=some (.ins C dx fs))(c:Cls X.K C)(k:Meth X.K C m g)(l:fs.lookup m=none)
  (h:Q (.ref g,[.ref a]) s):qd X A (getMethod (.ref a) m pl) Q E s:=by
 obtain⟨b,O,r,_,_,_⟩:=Qhr I.hok e
 have d:b m=none:=RelO.none_of (by rw[<-l];exact r m)
 exact Qqi I.kIn O (c.get m) k.at_ k.fn d h
theorem Qkx{Q:Unit->Shared->Prop}(I:qI H s)(e:H a=some (.ins C dx fs))(c:Cls X.K C)(n:NoAttr X.K C f)(F:fs.length<1000)(B:RelV y u)
  (h:∀s',qI (upd H a (.ins C dx (putF f y fs))) s'->Q () s'):qd X A (setAttr (.ref a) f u) Q E s:=by
 obtain⟨j,O,r,i,_,k⟩:=Qhr I.hok e
 have m:(fs.map (·.1)).length<=sizeLine:=by rw[jQ,sizeLine_eq];lia
 refine set_map I.kIn O c.sa c.po n.taker c.hd i m fun t d l=>h _ ?_
 have p:∃o,t.get? dx=some o:=let ⟨o,_,_,e',_⟩:=d.ns;⟨o,e'⟩
 refine I.write (x:=a) (e:=dx) (by rw[e];exact True.intro) (.inr k) (fun b q v z=>(l.2 b v).trans z) p ?_
 exists by rw[Qj O.ne];exact k,?_,O.ne,d.obj,_,d.ns,fun g=>?_,fun g D=>?_
 .have:=Xu f y fs;lia
 .show RelO ((putF f y fs).lookup g) (if g=f then some u else j g)
  rw[Xt]
  by_cases q:g=f
  .rw[Y22 q,Y22 q];exact B
  .rw[Y20 q,Y20 q];exact r g
 .by_cases q:g=f
  .rw[q];exact(Qbq f y fs).1
  .refine(Qbq f y fs).2 g (i g fun z=>D ?_)
   show(if g=f then some u else j g)=none
   rw[Y20 q];exact z
theorem Inv.made(I:qI H s):qI (upd (upd H (qa s) (.own ((qa s)+1))) ((qa s)+1) (.ins C (qa s) []))
  { s with heap:=(s.heap.push PySem.W.emptyDict).push (PySem.W.instObj C (qa s)) }:=by
 have c:(s.heap.push PySem.W.emptyDict).get? (qa s)=some PySem.W.emptyDict:=yZ s.heap rfl
 have i:((s.heap.push PySem.W.emptyDict).push (PySem.W.instObj C (qa s))).get? ((qa s)+1)=some (PySem.W.instObj C (qa s)):=by
  have:=yZ (s.heap.push PySem.W.emptyDict) (o:=PySem.W.instObj C (qa s)) rfl
  rwa [jKa]at this
 have f:(s.heap.push PySem.W.emptyDict).Ns (qa s) (fun _=>none):=⟨PySem.W.emptyDict,#[],_,c,rfl,(fun e j=>Y21 j (by simp)),fun _=>rfl⟩
 have d:=I.laid (a:=(qa s)) (o:=.own ((qa s)+1)) (h':=s.heap.push PySem.W.emptyDict) (t':=s.toks) (fun b u q=>jK _ q) (jJ _) ⟨_,c⟩
 refine d.laid (a:=(qa s)+1) (o:=.ins C (qa s) []) (t':=s.toks) (fun b u q=>jK _ q) (Nat.le_of_eq (jKa _ _)) ?_
 have ne:(qa s)≠(qa s)+1:=xQ (Nat.lt_succ_self _)
 exists by rw[Qj ne,upd_same],jZb _,ne,i,fun _=>none,(Heap.Ns1.of_empty f).at fun o q=>jK _ q,fun _=>True.intro,fun y g=>Y21 rfl g
theorem Quc{env:Env}(a:attributeBase e f env (eval e env)=eval e env)
  (h:qe prog w A (eval e env) (fun o s₁=>qe prog w A (getAttr o f true) Q E s₁) E s):qe prog w A (eval (.Attribute e f pos) env) Q E s :=
 Attribute_any_ h (by rw[arm_eval_Attribute,a])
end
def tFld(K:Fg)(ta:TE)(f:Str):TE:=fun σ H Q=>ta σ H fun x H1=>∃a C dx fs v,x=.ref a/\H1 a=some (.ins C dx fs)/\Cls K C/\NoAttr K C f/\fs.lookup f=some v/\Q v H1
def sFld(K:Fg)(ta tv:TE)(f:Str):TS:=fun D σ H=>tv σ H fun y H1=>ta σ H1 fun x H2=>∃a C dx fs,x=.ref a/\H2 a=some (.ins C dx fs)/\Cls K C/\NoAttr K C f/\fs.length<1000 /\
 D.nx σ (upd H2 a (.ins C dx (putF f y fs)))
section
variable{o value:Expr}{f:Str}{ta tv:TE}
theorem Zj(m:PE X e ta)(o:attributeBase e f X.env (eval e X.env)=eval e X.env):PE X (.Attribute e f pos) (tFld X.K ta f):=by
 intro b s k H Q I h
 refine Quc o (thn (m b s k H _ I h) fun u z d=>?_)
 obtain⟨x,r,i,p,a,C,w,fs,v,ex,j,c,n,l,q⟩:=d
 subst ex
 obtain rfl:u=Value.ref a:=p
 exact Qkv i j c n l fun y A g t=>⟨v,r,g,t,q⟩
theorem Ky(r:PE X o ta)(hv:PE X value tv)(g:swapsWith value (some (.Attribute o f pos')) pos.line X.env=pure false):PS X (.Assign [.Attribute o f pos'] value pos) (sFld X.K ta tv f):=by
 intro b s e H D I h
 refine plainObj_wpAny_Assign_Attribute (thn (hv b s e H _ I h) fun u s1 ⟨y,H1,I1,ry,q⟩=>thn (r b s1 e H1 _ I1 q) fun i A d=>?_) g
 obtain⟨x,z,t,p,a,C,v,fs,ex,j,c,n,l,m⟩:=d
 subst ex
 obtain rfl:i=Value.ref a:=p
 exact Qkx t j c n l ry fun w k=>⟨e,_,k,m⟩
end
structure Room(k:Nat)(A:Around):Prop where
 hd:A.handled=none
 dp:A.depth+3*k+5<recursionLimit
 un:A.units+16*k+200<cLine
theorem Room.mono{k:Nat}(r:Room k A)(h:j<=k):Room j A:=⟨r.hd,by have:=r.dp;lia,by have:=r.un;lia⟩
theorem Room.deeper{k:Nat}(r:Room (k+1) A)(env:Env):Room k (A.deeper env) :=
 ⟨r.hd,by have:=r.dp;show A.depth+1+3*k+5<_;lia,by have:=r.un;show A.units+3+16*k+200<_;lia⟩
theorem Qky:(A.under (.builtin "type.__call__" ⟨.ref C::us,kw⟩)).depth=A.depth+1:=by
 first | rfl | simp[Around.under,Code.weight,Code.isCreation,Code.isGuard,Code.isCaller,Code.frames,Code.isFrame,guardIds]
theorem Qkz:(A.under (.builtin "type.__call__" ⟨.ref C::us,kw⟩)).units=A.units+1:=by
 first | rfl | simp[Around.under,Code.cUnits,Code.frames,Code.isFrame]
theorem Room.make{k:Nat}(r:Room (k+1) A)(C:Addr)(us:List Value)(a:List (Str×Value)):Room k (A.under (.builtin "type.__call__" ⟨.ref C::us,a⟩)) :=
 ⟨r.hd,by have:=r.dp;rw[Qky];lia,by have:=r.un;rw[Qkz];lia⟩
theorem Room.depth{k:Nat}(r:Room k A):A.depth<recursionLimit:=by have:=r.dp;lia
def tNil:TA:=fun _ H Q=>Q [] H
def tCons(ta:TE)(tr:TA):TA:=fun σ H Q=>ta σ H fun x H1=>tr σ H1 fun xs H2=>Q (x::xs) H2
section
variable{te:TE}{t:TA}
theorem Qc:PA X [] tNil:=fun _ _ _ _ H Q I h=>Calls.spliced_nil ⟨[],H,I,.nil,h⟩
theorem Qa(n:PE X e te)(l:PA X es t)(g:qb (starEach (e::es) X.env=(false,eval e X.env)::starEach es X.env)):PA X (e::es) (tCons te t):=by
 intro b a s d H Q I h
 rw[g]
 show wpAny _ _ (spliced ((false,eval e X.env)::backTo b (starEach es X.env))) _ _ s
 refine Calls.spliced_cons (thn (n a s d H _ I h) fun u j c=>?_)
 obtain⟨x,m,i,k,f⟩:=c
 exact thn (l b a j d m _ i f) fun us s2 ⟨xs,H2,I2,r2,q2⟩=>⟨x::xs,H2,I2,.cons k r2,q2⟩
def tTup(t:TA):TE:=fun σ H Q=>t σ H fun xs H1=>xs.length<=sizeLine/\∀p,H1 p=none->Q (.ref p) (upd H1 p (.tup xs))
def tLst(t:TA):TE:=fun σ H Q=>t σ H fun xs H1=>xs.length<=sizeLine/\∀p,H1 p=none->Q (.ref p) (upd H1 p (.lst xs))
theorem Qy{x1}(h:PA X es t):PE X (.Tuple es x1 pos) (tTup t):=by
 intro a s c H Q I d
 refine wpAny_Tuple_spliced (thn (h pos a s c H _ I d) fun us s1 ⟨xs,H1,I1,r,z,q⟩=>⟨by rw[<-r.length];exact z,?_⟩)
 have f:H1 (qa s1)=none:=I1.hok.fresh (jJ _)
 exists .ref (qa s1),upd H1 (qa s1) (.tup xs),I1.laid (t':=s1.toks) (fun b u e=>jK _ e) (jJ _) ?_,rfl,q _ f
 exists z,us,r,⟨_,yZ _ rfl,rfl,_,rfl⟩
theorem Xo(h:PA X es t):PE X (.List es pos) (tLst t):=by
 intro a s c H Q I d
 refine wpAny_List_spliced (thn (h pos a s c H _ I d) fun us s1 ⟨xs,H1,I1,r,z,q⟩=>⟨by rw[<-r.length];exact z,?_⟩)
 have f:H1 (qa s1)=none:=I1.hok.fresh (jJ _)
 exists .ref (qa s1),upd H1 (qa s1) (.lst xs),I1.laid (t':=s1.toks) (fun b u e=>jK _ e) (jJ _) ?_,rfl,q _ f
 exists z,us,0,r,yZ _ rfl
end
abbrev Sp:=List V->Hp->VK->XK->Prop
abbrev CXT:=List Env->Hp->Shared->XK->Value->Shared->Prop
structure Env0(P:Program)(w:World)(K:Fg)(mg:Z9)(base:Heap)(A:Around)(outer:List Env)(s:Shared)(H:Hp):Prop where
 frames:A.frames=some outer
 mod:Mod K mg base
 bs:∀b o,base.get? b=some o->s.heap.get? b=some o/\H b=none
 bsz:base.objs.size<=(qa s)
 funs:s.heap.FunFrames base outer
 frf:∀b∈frs outer,H b=none
 hok:HOk P w H s.heap
 bare:AllBare s.gens
def CE(outer:List Env)(P:Program)(w:World)(H:Hp)(s:Shared)(Q:VK)(u:Value)(s':Shared):Prop :=
 ∃v H',s'.os=s.os/\AllBare s'.gens/\Un (frs outer) [] H H' s.heap s'.heap/\HOk P w H' s'.heap/\RelV v u/\Q v H'
def CR(CX:CXT)(outer:List Env)(P:Program)(w:World)(H:Hp)(s:Shared)(Q:VK)(E:XK)(r:Result)(s':Shared):Prop :=
 match r with
 |.ok (.ret u)=>CE outer P w H s Q u s'
 |.ok _=>False
 |.error e=>CX outer H s E e s'
structure FnOk(P:Program)(w:World)(K:Fg)(mg:Z9)(base:Heap)(CX:CXT)(k:Nat)(f:Addr)(fd:FuncData)(ps:List Str)(sp:Sp):Prop where
 len:∀vs H Q E,sp vs H Q E->vs.length=ps.length
 run:∀(A:Around) (outer:List Env) (s:Shared) (H:Hp) (args:Args) (us:List Value) (vs:List V) (Q:VK) (E:XK),Room k A->Env0 P w K mg base A outer s H->BindsTo s fd args (ps.zip us)->Vals vs us->sp vs H Q E ->
  codeAny (model P w) A (.call (.ref f) args) (CR CX outer P w H s Q E) s
theorem FnOk.mono{CX:CXT}{k:Nat}{ps:List Str}{sp:Sp}(F:FnOk P w K mg base CX j f fd ps sp)(h:j<=k) :
  FnOk P w K mg base CX k f fd ps sp:=⟨F.len,fun A a s H b e c Q E d=>F.run A a s H b e c Q E (d.mono h)⟩
theorem Env0.make(e:Env0 P w K mg base A outer s H)(C:Addr)(us:List Value)(a:List (Str×Value)) :
  Env0 P w K mg base (A.under (.builtin "type.__call__" ⟨.ref C::us,a⟩)) outer s H:=⟨by first | exact e.frames | (simpa[Around.under,Code.envs,Code.isFrame,pushEnvs]using e.frames),e.mod,e.bs,e.bsz,e.funs,e.frf,e.hok,e.bare⟩
section
variable{σ:St}{s':Shared}
theorem Inv.env0(I:qI H s):Env0 X.prog X.w X.K X.mg X.base X.A X.stack s H :=
 ⟨I.ok.frames,I.ok.mod,I.bs,jZf I.ok.bsz I.sz,I.stack,I.stkFree,I.hok,I.bare⟩
theorem Inv.after{Q:VK}(I:qI H s)(h:CE X.stack X.prog X.w H s Q u s'):EP X pins σ Q u s':=by
 obtain⟨v,f,j,a,un,e,r,q⟩:=h
 obtain⟨i,g,d,t,c⟩:=s'
 obtain rfl:c=s.os:=j
 exists v,f,I.call (h':=i) (g':=g) (d':=d) (t':=t) (ch:=[]) un e a (fun b z=>Y21 z (by simp)),r,q
end
def Qud(sp:Sp)(dvs:List V)(E:XK)(t:TA):TE:=fun σ H Q=>t σ H fun vs H1=>sp (vs++dvs) H1 Q E
def tMeth(C:Addr)(m:Str)(sp:Sp)(dvs:List V)(E:XK)(ta:TE)(t:TA):TE:=fun σ H Q=>ta σ H fun x H1=>∃a dx fs,x=.ref a/\H1 a=some (.ins C dx fs)/\fs.lookup m=none /\
 t σ H1 fun vs H2=>sp (x::(vs++dvs)) H2 Q E
def tMake(C:Addr)(sp:Sp)(dvs:List V)(E:XK)(t:TA):TE:=fun σ H Q=>t σ H fun vs H1=>∀x dx,H1 x=none->H1 dx=none->dx≠x ->
 sp (.ref x::(vs++dvs)) (upd (upd H1 dx (.own x)) x (.ins C dx [])) (fun v H2=>v=.non/\Q (.ref x) H2) E
def Binds(K:Fg)(fd:FuncData)(ps:List Str)(ds:List Value):Prop :=
 ∀(s:Shared) (us:List Value),K.In s.heap->(us++ds).length=ps.length->BindsTo s fd ⟨us,[]⟩ (ps.zip (us++ds))
theorem Binds.all{ps:List Str}(h:∀us:List Value,us.length=ps.length->bindArgs fd ⟨us,[]⟩=pure (ps.zip us)):Binds K fd ps []:=fun s us _ a=>by
 rw[kXd]at a⊢
 exact .of_eq (h us a)
def Qdh(CX:CXT)(X:Cx)(E:XK):Prop:=∀(pins:Z8) (σ:St) (H:Hp) (s:Shared) (e:Value) (s':Shared),qI H s->CX X.stack H s E e s'->X.xe e s'
section
variable{CX:CXT}{k:Nat}{ps:List Str}{sp:Sp}{dvs:List V}{ds:List Value}{E:XK}{m:Str}{p apos:Pos}{o:Expr}{ta:TE}{t:TA}
theorem Qmm{σ:St}{Q:VK}(F:FnOk X.prog X.w X.K X.mg X.base CX k f fd ps sp)(d:Room k X.A)(j:Binds X.K fd ps ds)(g:Vals dvs ds)(l:Qdh CX X E)
  (I:qI H s) (r:Vals vs us) (h:sp (vs++dvs) H Q E):qd X X.A (call (.ref f) us) (EP X pins σ Q) X.xe s:=by
 have b:Vals (vs++dvs) (us++ds):=r.append g
 have c:(us++ds).length=ps.length:=by rw[<-b.length];exact F.len _ _ _ _ h
 refine wpAny_call (codeAny_mono (F.run X.A X.stack s H ⟨us,[]⟩ (us++ds) (vs++dvs) Q E d I.env0 (j s us I.kIn c) b h) fun r i a=>?_)
 cases r with
 |error e=>exact l pins σ H s e i I a
 |ok fl=>
  cases fl with
  |ret u=>exact I.after a
  |next=>exact False.elim a
  |brk=>exact False.elim a
  |cont=>exact False.elim a
theorem Que(F:FnOk X.prog X.w X.K X.mg X.base CX k f fd ps sp)(i:Room k X.A)(u:Gl X x)(v:X.mg x=some (.ref f))(d:PySem.W.keepIn X.K (.ref f)=true)(m:Binds X.K fd ps ds)(j:Vals dvs ds)(n:Qdh CX X E)
  (o:PA X (e::es) t) (c:qc ((x == ("__debug__":Str))=false)) (l:qb (starEach (e::es) X.env=(false,eval e X.env)::starEach es X.env)) (b:qb ((backTo pos (starEach es X.env)).any (·.1)=false)) :
  PE X (.Call (.Name x p) (e::es) [] pos) (Qud sp dvs E t):=by
 intro a s g H Q I h
 refine wpAny_Call_Name_kw (Qho I u v ?_ c)
 refine PySem.W.callWith_K (h₀:=X.base) I.ok.mod.kin d (thn (o pos a s g H _ I h) fun us s1 ⟨vs,H1,I1,r,q⟩=>⟨I1.kIn,?_⟩) l b
 exact Qmm F i m j n I1 r q
theorem Qmn{pl:Sem Bool}(y:PE X o ta)(c:Cls X.K C)(p:Meth X.K C m f)(F:FnOk X.prog X.w X.K X.mg X.base CX k f fd ps sp)(v:Room k X.A)(M:Binds X.K fd ps ds)(z:Vals dvs ds)(N:Qdh CX X E)(G:PA X (e::es) t)
  (i:qb (starEach (e::es) X.env=(false,eval e X.env)::starEach es X.env)) (g:qb ((backTo pos (starEach es X.env)).any (·.1)=false))
  (D:eval (.Call (.Attribute o m apos) (e::es) [] pos) X.env=(do
   let ov ← eval o X.env
   standAt apos.atName
   let (f,first) ← holding [ov] (getMethod ov m pl)
   callWith pos f first (backTo pos (starEach (e::es) X.env)) (backToKw pos (keywordEach [] X.env))):=by rfl) :
  PE X (.Call (.Attribute o m apos) (e::es) [] pos) (tMeth C m sp dvs E ta t):=by
 intro b s j H Q I h
 refine PySem.W.methodCall_KW (pl:=pl) (thn (y b s j H _ I h) fun u J d=>?_) D
 obtain⟨x,O,n,B,a,P,fs,ex,L,l,q⟩:=d
 subst ex
 obtain rfl:u=Value.ref a:=B
 refine Qkw n L c p l ?_
 refine PySem.W.callWith_K (first:=[.ref a]) (h₀:=X.base) I.ok.mod.kin p.kp (thn (G pos b J j O _ n q) fun us s2 ⟨vs,H2,I2,r,q2⟩=>⟨I2.kIn,?_⟩) i g
 exact Qmm (us:=.ref a::us) (vs:=.ref a::vs) F v M z N I2 (.cons rfl r) q2
structure Mk(K:Fg)(C f:Addr):Prop where
 makes:PySem.W.makesIn K C=true
 init:PySem.W.findIn K (.ref C) "__init__"=some (some (.ref f))
 fn:PySem.W.isFn K (.ref f)=true
 kp:PySem.W.keepIn K (.ref C)=true
theorem Qqk{σ:St}{Q:VK}(M:Mk X.K C f)(F:FnOk X.prog X.w X.K X.mg X.base CX k f fd ps sp)(n:Room (k+1) X.A)(t:Binds X.K fd ps ds)(p:Vals dvs ds)
  (y:Qdh CX X E) (I:qI H s) (r:Vals vs us)
  (h:∀x dx,H x=none->H dx=none->dx≠x->sp (.ref x::(vs++dvs)) (upd (upd H dx (.own x)) x (.ins C dx [])) (fun v H2=>v=.non/\Q (.ref x) H2) E) :
  qd X X.A (call (.ref C) us) (EP X pins σ Q) X.xe s:=by
 have c:=h ((qa s)+1) (qa s) (I.hok.fresh (kYb _)) (I.hok.fresh (jJ _)) (xQ (Nat.lt_succ_self _))
 have b:=Inv.made (C:=C) I
 have d:Vals (V.ref ((qa s)+1)::(vs++dvs)) (Value.ref ((qa s)+1)::(us++ds)):=.cons rfl (r.append p)
 have j:(Value.ref ((qa s)+1)::us++ds).length=ps.length:=by
  have e:=d.length
  rw[F.len _ _ _ _ c]at e
  exact e.symm
 refine wpAny_call (Qqj (f:=f) I.kIn M.makes M.init (beq_iff_eq.mp M.fn) (codeAny_mono (F.run _ X.stack _ _ ⟨Value.ref ((qa s)+1)::us,[]⟩ (Value.ref ((qa s)+1)::(us++ds)) _ _ E (n.make C us [])
  (b.env0.make C us []) (t _ (Value.ref ((qa s)+1)::us) b.kIn j) d c) fun r q a=>?_))
 cases r with
 |error e=>exact y pins σ _ _ e q b a
 |ok fl=>
  cases fl with
  |ret u=>
   obtain⟨v,m,o,g,l,i⟩:=b.after a
   subst l
   exists g,⟨V.ref ((qa s)+1),m,o,rfl,i⟩
  |next=>exact False.elim a
  |brk=>exact False.elim a
  |cont=>exact False.elim a
theorem Quf(M:Mk X.K C f)(F:FnOk X.prog X.w X.K X.mg X.base CX k f fd ps sp)(g:Room (k+1) X.A)(o:Gl X x)(u:X.mg x=some (.ref C))(l:Binds X.K fd ps ds)(i:Vals dvs ds)(m:Qdh CX X E)
  (n:PA X (e::es) t) (c:qc ((x == ("__debug__":Str))=false)) (j:qb (starEach (e::es) X.env=(false,eval e X.env)::starEach es X.env)) (b:qb ((backTo pos (starEach es X.env)).any (·.1)=false)) :
  PE X (.Call (.Name x p) (e::es) [] pos) (tMake C sp dvs E t):=by
 intro a s d H Q I h
 refine wpAny_Call_Name_kw (Qho I o u ?_ c)
 refine PySem.W.callWith_K (h₀:=X.base) I.ok.mod.kin M.kp (thn (n pos a s d H _ I h) fun us s1 ⟨vs,H1,I1,r,q⟩=>⟨I1.kIn,?_⟩) j b
 exact Qqk M F g l i m I1 r q
end
structure FnScope(N P:List Str)(sc:Scope):Prop where
 kind:sc.kind=.function
 co:sc.isCoroutine=false
 gen:sc.isGenerator=false
 nd:N.Nodup
 pre:N.take P.length=P
 par:∀x∈P,sc.names.lookup x=some .local\/sc.names.lookup x=some .cell
 nofree:∀y∈sc.names,y.2≠.free
theorem Qfx{kindOf:Str->Option NameKind}{x:Str}:∀{binds:List (Str×Value)} {m:Z9},(∀v,(x,v)∉binds)->bindL kindOf binds m x=m x
 |[],_,_=>rfl
 |(n,v)::r,m,h=>by
  unfold bindL
  rw[Qfx fun w a=>h w (yW _ a)]
  split
  .have:x≠n:=by rintro rfl;exact h v kZ
   simp[this]
  .rfl
theorem Qfy{kindOf:Str->Option NameKind}{x:Str}:∀{binds:List (Str×Value)} {m:Z9},(∀v,(x,v)∉binds)->bindC kindOf binds m x=m x
 |[],_,_=>rfl
 |(n,v)::r,m,h=>by
  unfold bindC
  rw[Qfy fun w a=>h w (yW _ a)]
  split
  .rfl
  .have:x≠n:=by rintro rfl;exact h v kZ
   simp[this]
theorem Qfz{kindOf:Str->Option NameKind}{x:Str}{v:Value}:∀{P:List Str} {vs:List Value} {i:Nat} {m:Z9},P.Nodup->P[i]?=some x->vs[i]?=some v->kindOf x=some .local ->
  bindL kindOf (P.zip vs) m x=some v
 |[],_,_,_,_,h,_,_=>by simp at h
 |_::_,[],_,_,_,_,h,_=>by simp at h
 |p::P,w::vs,0,m,nd,h1,h2,hk=>by
  simp at h1 h2;subst h1;subst h2
  show bindL kindOf ((p,w)::P.zip vs) m p=_
  unfold bindL
  rw[Qfx fun v hv=>(jJc.mp nd).1 (List.of_mem_zip hv).1,Y22 hk]
  simp
 |p::P,w::vs,i+1,m,nd,h1,h2,hk=>by
  show bindL kindOf ((p,w)::P.zip vs) m x=_
  unfold bindL
  exact Qfz (i:=i) (jJc.mp nd).2 (by simpa using h1) (by simpa using h2) hk
theorem Qga{kindOf:Str->Option NameKind}{x:Str}{v:Value}:∀{P:List Str} {vs:List Value} {i:Nat} {m:Z9},P.Nodup->P[i]?=some x->vs[i]?=some v->kindOf x≠some .local ->
  bindC kindOf (P.zip vs) m x=some v
 |[],_,_,_,_,h,_,_=>by simp at h
 |_::_,[],_,_,_,_,h,_=>by simp at h
 |p::P,w::vs,0,m,nd,h1,h2,hk=>by
  simp at h1 h2;subst h1;subst h2
  show bindC kindOf ((p,w)::P.zip vs) m p=_
  unfold bindC
  rw[Qfy fun v hv=>(jJc.mp nd).1 (List.of_mem_zip hv).1,Y20 hk]
  simp
 |p::P,w::vs,i+1,m,nd,h1,h2,hk=>by
  show bindC kindOf ((p,w)::P.zip vs) m x=_
  unfold bindC
  exact Qga (i:=i) (jJc.mp nd).2 (by simpa using h1) (by simpa using h2) hk
def start(N:List Str)(vs:List V):St:=vs.map some++qg (N.length-vs.length) none
def cxOf(CX:CXT)(P:Program)(w:World)(K:Fg)(mg:Z9)(base:Heap)(N:List Str)(qual:Str)(scope:Scope)(f:Addr)(cd:Value)(A:Around)(outer:List Env)(s:Shared)(H:Hp)(E:XK):Cx where
 prog:=P
 w:=w
 K:=K
 mg:=mg
 base:=base
 A:=A.deeper (envOfC qual scope (qa s) f cd)
 N:=N
 s₀:=s
 H₀:=H
 env:=envOfC qual scope (qa s) f cd
 outer:=outer
 stack:=envOfC qual scope (qa s) f cd::outer
 ex:=[]
 calm:=true
 fn:=fun _=>true
 pn:=[]
 xe:=fun e s'=>qe P w (A.deeper (envOfC qual scope (qa s) f cd)) (leaving (envOfC qual scope (qa s) f cd) e) (fun _ s''=>CX outer H s E e s'') (fun e' s''=>CX outer H s E e' s'') s'
theorem Qjc{sc:Scope}(h:sc.names.lookup x=some .cell):∃c,(cellsFrom n sc.names []).lookup x=some c:=by
 have q:=PySem.W.cellsFrom_some sc.names n [] (.inl h)
 exact jJa.mp q
theorem Qmo{CX:CXT}{ps:List Str}{cd:Value}{s1:Shared}{E:XK}
  (S:FnScope N ps scope) (F:A.handled=none) (g:Env0 P w K mg base A outer s H) (J:vs.length=ps.length) (r:Vals vs us)
  (x:InCallC s (qa s) (bindL (envOfC qual scope (qa s) f cd).kindOf (ps.zip us) fun _=>none) (cellsFrom ((qa s)+1) scope.names []) (bindC (envOfC qual scope (qa s) f cd).kindOf (ps.zip us) fun _=>none) s1) :
  Inv (cxOf CX P w K mg base N qual scope f cd A outer s H E) [] (start N vs) H s1:=by
 have I:ps.length<=N.length:=by have:=congrArg List.length S.pre;rw[yY]at this;lia
 obtain⟨t,L,rfl,B⟩:=x.done
 have j:∀b:Addr,b∉(cxOf CX P w K mg base N qual scope f cd A outer s H E).ex:=fun b z=>Y21 (show b∈([]:List Addr)from z) (by simp)
 refine⟨⟨g.mod,S.kind,rfl,rfl,jJ _,fun y z c t d=>?_,fun y hy=>?_,fun y c _ h=>?_,fun _=>F,Around.frames_deeper g.frames,.inr ⟨rfl,rfl⟩,fun b z=>Y21 z (j b),g.bs,g.bsz,fun b _ _=>j b,fun b z=>Y21 z (j b),g.funs,g.frf⟩,
  rfl,g.bare,Un.kept B,⟨_,x.toInCall.ns,fun i y v t d M=>?_⟩,fun y c h=>⟨_,x.cell y c h⟩,g.hok.fresh (jJ _),fun y c h=>?_,fun p l=>Y21 (show p∈([]:Z8)from l) (by simp),g.hok.kept B,?_⟩
 .exact name_of_addr x.apart (PySem.mem_of_lookup t) (PySem.mem_of_lookup d)
 .have hy:scope.names.lookup y=some .cell\/scope.names.lookup y=some .free:=hy
  rcases hy with hy | hy
  .exact Qjc hy
  .exact Y21 rfl (S.nofree _ (PySem.mem_of_lookup hy))
 .exact kQd (x.above y c (PySem.mem_of_lookup h))
 .have o:i<vs.length:=by
   unfold start at d
   by_cases o:i<vs.length
   .exact o
   .rw[xJ (by simpa using o)]at d
    rw[List.getElem?_replicate]at d
    split at d<;>cases d
  have G:vs[i]?=some v:=by
   unfold start at d
   rw[xW (by simpa using o),jZ]at d
   cases e:vs[i]? with
   |none=>rw[e]at d;cases d
   |some a=>rw[e]at d;cases d;rfl
  obtain⟨u,C,D⟩:=r.get G
  have l:ps[i]?=some y:=by
   rw[<-S.pre,List.getElem?_take_of_lt Om];exact t
  have m:ps.Nodup:=by rw[<-S.pre];exact S.nd.sublist (List.take_sublist _ _)
  exists u,D,?_
  rcases S.par y (kK l)with k | k
  .exact .inl ⟨k,Qfz m l C k⟩
  .obtain⟨c,e⟩:=Qjc (n:=(qa s)+1) k
   refine .inr ⟨.inl k,c,e,?_⟩
   have q:=x.cell y c e
   rw[Qga m l C (by show scope.names.lookup y≠_;rw[k];decide)]at q
   exact q
 .exact g.hok.fresh (kQd (x.above y c (PySem.mem_of_lookup h)))
 .unfold start
  show _=N.length
  rw[jV,jQ,zZ]
  lia
theorem fn_of{CX:CXT}{k:Nat}{name:Str}{params:Arguments}{body:List Stmt}{dV kV:Value}
   {ps:List Str} {sp:Sp} (U:K.lookup f=some ⟨oc,od,.func (PySem.W.fnOf name qual params body scope dV kV doc pm an cdv ct),osl⟩) (p:PySem.W.codeIn K cdv qual=true) (S:FnScope N ps scope)
  (len:∀vs H Q E,sp vs H Q E->vs.length=ps.length)
  (d:∀(A:Around) (outer:List Env) (s:Shared) (H:Hp) (vs:List V) (Q:VK) (E:XK),Room k (A.deeper (envOfC qual scope (qa s) f cdv))->sp vs H Q E ->
   ∃t,PSs (cxOf CX P w K mg base N qual scope f cdv A outer s H E) body t/\t { nx:=fun _ H'=>Q .non H',rt:=Q } (start N vs) H) :
  FnOk P w K mg base CX (k+1) f (PySem.W.fnOf name qual params body scope dV kV doc pm an cdv ct) ps sp:=by
 exists len,fun A outer s H B M vs Q E l h Y r i=>?_
 have G:=len _ _ _ _ i
 have C:K.In s.heap:=h.mod.kin.keeps fun b o e=>(h.bs b o e).1
 have j:s.heap.NoLimit:=h.mod.nolimit.keeps fun b o e=>(h.bs b o e).1
 have c:∀y∈ps.zip M,scope.names.lookup y.1=some .local\/(scope.names.lookup y.1=some .cell/\((cellsFrom ((qa s)+1) scope.names []).lookup y.1).isSome=true):=fun⟨n,v⟩ X=>by
  rcases S.par n (List.of_mem_zip X).1 with q | q
  .exact .inl q
  .exact .inr ⟨q,PySem.W.cellsFrom_some _ _ _ (.inl q)⟩
 refine codeAny_call_function l.depth (C _ _ U) rfl S.co S.gen rfl (PySem.W.codeRec_of C p) (Y _ _ _ _ ?_)
 refine wpAny_newFunctionEnv_cells S.kind c fun R L D x=>?_
 subst L
 exists j.keeps x.toInCall.keep,codeAny_func ?_
 obtain⟨t,O,T⟩:=d A outer s H vs Q E (l.deeper _) i
 have I:Inv (cxOf CX P w K mg base N qual scope f cdv A outer s H E) [] (start N vs) H D:=Qmo S l.hd h G r x
 refine Y29 (O [] D (start N vs) H _ I T) (fun F z g=>?_) fun e z g=>g
 have fin:∀{a:St} {H':Hp} {v:V} {u:Value},Inv (cxOf CX P w K mg base N qual scope f cdv A outer s H E) [] a H' z->RelV v u->Q v H'->CE outer P w H s Q u z :=
  fun{a H' v u} J m q=>⟨v,H',J.os,J.bare,J.base,J.hok,m,q⟩
 cases F with
 |ret u=>
  obtain⟨v,a,H',J,m,q⟩:=g
  exact fin J m q
 |next=>
  obtain⟨a,H',J,q⟩:=g
  exact fin (v:=V.non) (u:=Value.none) J rfl q
 |brk=>
  obtain⟨_,_,_,q⟩:=g
  exact False.elim q
 |cont=>
  obtain⟨_,_,_,q⟩:=g
  exact False.elim q
section
variable{p:Pos}{t:TA}{id:String}{r:List V->Hp->VK->Prop}
def tCB(r:List V->Hp->VK->Prop)(t:TA):TE:=fun σ H Q=>t σ H fun vs H1=>r vs H1 Q
theorem Qk(f:Jv X (.builtin id) r)(k:Gl X x)(l:X.mg x=none)(hv:bootBuiltins x=some (.builtin id))(j:PA X (e::es) t)(g:qc (x≠"__name__"))(c:qc ((x == ("__debug__":Str))=false))
  (i:qb (starEach (e::es) X.env=(false,eval e X.env)::starEach es X.env)) (b:qb ((backTo pos (starEach es X.env)).any (·.1)=false)):PE X (.Call (.Name x p) (e::es) [] pos) (tCB r t):=by
 intro a s d H Q I h
 refine wpAny_Call_Name_kw (Qav I k l hv ?_ g c)
 exact PyProof.Rows.callWith_builtin1 (thn (j pos a s d H _ I h) fun us s1 ⟨vs,H1,I1,r1,q1⟩=>f a s1 d H1 vs us Q I1 r1 q1) i b
theorem Qz(f:Jv X (.type T) r)(k:Gl X x)(l:X.mg x=none)(hv:bootBuiltins x=some (.type T))(j:PA X (e::es) t)(g:qc (x≠"__name__"))(c:qc ((x == ("__debug__":Str))=false))
  (i:qb (starEach (e::es) X.env=(false,eval e X.env)::starEach es X.env)) (b:qb ((backTo pos (starEach es X.env)).any (·.1)=false)):PE X (.Call (.Name x p) (e::es) [] pos) (tCB r t):=by
 intro a s d H Q I h
 refine wpAny_Call_Name_kw (Qav I k l hv ?_ g c)
 exact PyProof.Rows.callWith_type1 (thn (j pos a s d H _ I h) fun us s1 ⟨vs,H1,I1,r1,q1⟩=>f a s1 d H1 vs us Q I1 r1 q1) i b
end
end L2
variable{σ τ0:L2.St}{te:L2.TE}{ta:L2.TA}{tb s1 s2 s3 s4 s5 s6:L2.TS}{sp:L2.Sp}{tt:L2.TT}{J:L2.It}
namespace HT
open PySem PyProof.Rows
theorem cat_tup{t:Addr}{vs ws:List Value}(x:IsTup s.heap t vs.toArray)(r:IsTup s.heap b ws.toArray)(hv:vs≠[])
  (v:ws=[]->Q (.ref t) s) (u:ws≠[]->Q (.ref (qa s)) { s with heap:=s.heap.push { cls:=.type "tuple",data:=.seq (vs++ws).toArray } })
  (hsz:vs.length+ws.length<=sizeLine):qe prog w A (binaryOp .Add (.ref t) (.ref b)) Q E s:=by
 obtain⟨⟨cls,o,data,q⟩,i,k,n,p⟩:=id x
 obtain⟨⟨m,c,j,d⟩,a,f,l,g⟩:=id r
 simp only at k p f g
 subst k p f g
 have e:vs.toArray++ws.toArray=(vs++ws).toArray:=by simp
 by_cases h:ws=[]
 .exact concat_meets ⟨_,i,rfl⟩ ⟨_,a,rfl⟩ noFill_tuple_add seq_tuple_add PySem.F.slot_tuple_add PySem.F.entry_tuple_add (PySem.F.args_tuple_add_2 _ _)
   (tuple_addW1 t b vs.toArray ws.toArray n l o c q d (by simpa using hv) (by simp[h])) ⟨i,a,v h⟩
 .refine concat_meets ⟨_,i,rfl⟩ ⟨_,a,rfl⟩ noFill_tuple_add seq_tuple_add PySem.F.slot_tuple_add PySem.F.entry_tuple_add (PySem.F.args_tuple_add_2 _ _)
   (tuple_addW2 t b vs.toArray ws.toArray n l o c q d (by simpa using hv) (by simpa using h) (by rw[kX,kX];exact hsz)) ⟨i,a,?_⟩
  rw[e]
  exact u h
def sIx(n d:Nat):Option Int->Nat
 |none=>d
 |some v=>if v<0 then(v+(n:Int)).toNat else min v.toNat n
theorem sIx_none(n d:Nat):sIx n d none=d:=rfl
theorem sIx_nat(n d k:Nat):sIx n d (some (k:Int))=min k n:=by
 show(if (k:Int)<0 then((k:Int)+(n:Int)).toNat else min (k:Int).toNat n)=min k n
 rw[Y20 Om,jQc]
theorem sIx_le(n d:Nat)(a:d<=n)(o:Option Int):sIx n d o<=n:=by
 cases o with
 |none=>exact a
 |some v=>
  show(if v<0 then(v+(n:Int)).toNat else min v.toNat n)<=n
  by_cases hv:v<0
  .rw[Y22 hv];lia
  .rw[Y20 hv];exact Nat.min_le_right _ _
theorem min_cast(v:Int)(n:Nat)(h:¬v<0):min v (n:Int)=((min v.toNat n:Nat):Int):=by
 obtain⟨k,rfl⟩:=Int.eq_ofNat_of_zero_le (kXe.mp h)
 rw[jQc]
 rcases Nat.le_total k n with h | h
 .rw[jXd h,Int.min_eq_left (Int.ofNat_le.mpr h)]
 .rw[Nat.min_eq_right h,Int.min_eq_right (Int.ofNat_le.mpr h)]
theorem clip_eq(v:Int)(n d:Nat):(if v<0 then max (v+(n:Int)) 0 else min v (n:Int))=((sIx n d (some v):Nat):Int):=by
 show(if v<0 then max (v+(n:Int)) 0 else min v (n:Int))=(((if v<0 then(v+(n:Int)).toNat else min v.toNat n):Nat):Int)
 by_cases hv:v<0
 .rw[Y22 hv,Y22 hv];exact(Int.ofNat_toNat _).symm
 .rw[Y20 hv,Y20 hv];exact min_cast v n hv
theorem Qla(lo a:Option Int)(n:Nat):Builtin.Slice.sliceAdjust lo a 1 (n:Int)=(((sIx n 0 lo:Nat):Int),((sIx n n a:Nat):Int)):=by
 have b:¬((1:Int)<0):=Om
 unfold Builtin.Slice.sliceAdjust
 simp only[b,if_false]
 refine Prod.ext ?_ ?_
 .cases lo with
  |none=>rfl
  |some v=>exact clip_eq v n 0
 .cases a with
  |none=>rfl
  |some v=>exact clip_eq v n n
theorem Qlb(i j:Nat):Builtin.Slice.slicePlaces (i:Int) (j:Int) 1=j-i:=by
 unfold Builtin.Slice.slicePlaces
 have a:(1:Int) > 0:=Om
 simp only[a,if_true,Int.ediv_one]
 split<;>lia
theorem Qdi{v:Value}{o:Option Int}{Q:Option Int->Shared->Prop}(p:IsPart v o)(h:Q o s):qe prog w A (Builtin.Slice.slicePartIndex v) Q E s:=by
 cases p with
 |none=>exact slicePart_none h
 |int i t=>exact slicePart_int h
theorem Kp{Q:Int×Int×Nat->Shared->Prop}(e:s.heap.IsSliceOf sl vl vu .none)(pl:IsPart vl lo)(d:IsPart vu hi)
  (h:Q (((sIx n 0 lo:Nat):Int),1,sIx n n hi-sIx n 0 lo) s):qe prog w A (Builtin.Slice.sliceApplied (.ref sl) (pure (n:Int))) Q E s:=by
 obtain⟨f,b,c,a⟩:=id e
 unfold Builtin.Slice.sliceApplied Builtin.Slice.sliceFields
 refine jX (jX (Y23 b a (x:=vl) rfl (jX (Y23 b a (x:=vu) rfl (jX (Y23 b a (x:=.none) rfl (kQ ?_)))))))
 refine jX (slicePart_none ?_)
 show wpAny _ _ (if ((1:Int) == 0)=true then _ else _) _ _ s
 rw[Y20 Dc]
 refine jX (Qdi pl (jX (Qdi d (jX (kQ ?_)))))
 show wpAny _ _ (match Builtin.Slice.sliceAdjust lo hi 1 (n:Int)with | (lo,hi)=>pure (lo,(1:Int),Builtin.Slice.slicePlaces lo hi 1)) _ _ s
 rw[Qla lo hi n]
 show wpAny _ _ (pure (((sIx n 0 lo:Nat):Int),(1:Int),Builtin.Slice.slicePlaces ((sIx n 0 lo:Nat):Int) ((sIx n n hi:Nat):Int) 1)) _ _ s
 rw[Qlb]
 exact kQ h
theorem Qql(xs:Array Value)(i k:Nat):((List.range k).filterMap fun(m:Nat)=>xs[((i:Int)+(m:Int)*1).toNat]?).toArray=((xs.toList.drop i).take k).toArray:=by
 have e:(fun(m:Nat)=>xs[((i:Int)+(m:Int)*1).toNat]?)=fun m=>xs[i+m]?:=by
  funext m
  have:((i:Int)+(m:Int)*1).toNat=i+m:=Om
  rw[this]
 rw[e]
 have:=pick_run xs i k
 rw[List.filterMap_map]at this
 have a:((fun x=>xs[x]?)∘fun x=>i+x)=fun m=>xs[i+m]?:=rfl
 rw[a]at this
 rw[this]
theorem getItem_tuple_cut{t:Addr}{items:Array Value}(b:IsTup s.heap t items)(g:s.heap.IsSliceOf sl vl vu .none)(pl:IsPart vl lo)(l:IsPart vu hi)
  (j:¬(sIx items.size 0 lo=0/\sIx items.size items.size hi=items.size))
  (h:Q (.ref (qa s)) { s with heap:=s.heap.push { cls:=.type "tuple",data:=.seq ((items.toList.drop (sIx items.size 0 lo)).take (sIx items.size items.size hi-sIx items.size 0 lo)).toArray } })
  (hsz:items.size<=sizeLine):qe prog w A (getItem (.ref t) (.ref sl)) Q E s:=by
 have a:sizeOk (.seq ((items.toList.drop (sIx items.size 0 lo)).take (sIx items.size items.size hi-sIx items.size 0 lo)).toArray):=by
  show((items.toList.drop (sIx items.size 0 lo)).take (sIx items.size items.size hi-sIx items.size 0 lo)).toArray.size<=sizeLine
  rw[kX,yY,wY,jQe]
  lia
 have p:sIx items.size items.size hi<=items.size:=sIx_le _ _ (jJ _) hi
 obtain⟨k,f,c,i⟩:=id g
 have e:s.TypeIs (.ref sl) "slice":=⟨k,f,c⟩
 unfold getItem
 try with_reducible refine Y30 ?_
 first | refine jX (kQ ?_) | skip
 refine jX (wpAny_sequenceKey b.typeIs Dc ?_)
 refine jX (wpAny_callSpecial?_slot (name:=Str.ofString "__getitem__") b.typeIs PyProof.Rows.slot_tuple_getitem
  (Y25 PyProof.Rows.slot_tuple_getitem b.typeIs entry_tuple_getitem ?_ (args_tuple_getitem _ _)))
 show wpAny _ _ (Builtin.Tuple.tupleItemsOf (.ref t) >>= _) _ _ s
 refine jX (tupleItemsOf_ b ?_)
 refine jX (wpAny_typeOf e ?_)
 rw[Y22 Dc]
 refine jX (Kp g pl l ?_)
 have d:¬((((sIx items.size 0 lo:Nat):Int) == 0&&(1:Int) == 1&&(sIx items.size items.size hi-sIx items.size 0 lo) == items.size)=true):=by
  intro q
  rw[wZ,wZ]at q
  have n:((sIx items.size 0 lo:Nat):Int)=0:=eq_of_beq q.1.1
  have o:sIx items.size items.size hi-sIx items.size 0 lo=items.size:=eq_of_beq q.2
  exact j ⟨Om,Om⟩
 show wpAny _ _ (if (((sIx items.size 0 lo:Nat):Int) == 0&&(1:Int) == 1&&(sIx items.size items.size hi-sIx items.size 0 lo) == items.size)=true then _ else _) _ _ s
 rw[Y20 d,Qql]
 first
  |exact jX (m:=Builtin.Tuple.tupleExact _) (Y26 (kQ ⟨_,rfl,kQ h⟩) a)
  |exact jX (m:=Builtin.Tuple.tupleExact _) (Y26 (jX (kQ (kQ ⟨_,rfl,kQ h⟩))) a)
  |exact jX (jX (m:=Builtin.Tuple.tupleExact _) (Y26 (kQ (kQ ⟨_,rfl,kQ h⟩)) a))
  |exact jX (jX (m:=Builtin.Tuple.tupleExact _) (Y26 (kQ ⟨_,rfl,kQ h⟩) a))
end HT
namespace L2
open PySem PySem.Spec PyProof.Rows
abbrev TO:=St->Hp->(Option Int->Hp->Prop)->Prop
def PO(X:Cx)(e:Option Expr)(t:TO):Prop :=
 ∀(pins:Z8) (s:Shared) (σ:St) (H:Hp) (Q:Option Int->Hp->Prop),qI H s->t σ H Q ->
  qd X X.A (evalPart e X.env) (fun u s'=>∃o H',qI H' s'/\IsPart u o/\Q o H') X.xe s
def Qug:TO:=fun _ H Q=>Q none H
def tPart(t:TE):TO:=fun σ H Q=>t σ H fun x H1=>∃i,x=.int i/\Q (some i) H1
theorem intsAre_of:∀{us:List Value},Vals (ns.map V.int) us->IntsAre us ns:=by
 induction ns with
 |nil=>intro us r;rw[kYa]at r;cases r;exact .nil
 |cons n ns ih=>
  intro us r
  rw[xX]at r
  cases r with
  |cons r1 r2=>
   obtain⟨t,e⟩:=r1
   subst e
   exact .cons n t (ih r2)
section
variable{lo hi:Option Expr}{tl th:TO}{p2:Pos}
theorem Zv:PO X none Qug:=by
 intro a s b H Q I h
 rw[evalPart_none]
 exact kQ ⟨none,H,I,.none,h⟩
theorem Yj(h:PE X e te):PO X (some e) (tPart te):=by
 intro a s f H Q I g
 rw[evalPart_some]
 refine thn (h a s f H _ I g) fun u l b=>?_
 obtain⟨x,k,d,j,c⟩:=b
 obtain⟨i,rfl,q⟩:=c
 obtain⟨t,rfl⟩:=j
 exists some i,k,d,.int i t,q
def SlR(X:Cx)(r:V->Option Int->Option Int->Hp->VK->Prop):Prop :=
 ∀(pins:Z8) (s:Shared) (σ:St) (H:Hp) (x:V) (v vl vu:Value) (lo hi:Option Int) (sl:Addr) (Q:VK),qI H s->RelV x v->s.heap.IsSliceOf sl vl vu .none->IsPart vl lo->IsPart vu hi->r x lo hi H Q ->
  ∃T id,typeLookup (.type T) "__getitem__"=pure (some (.builtin id))/\s.TypeIs v T/\qd X X.A (getItem v (.ref sl)) (EP X pins σ Q) X.xe s
def tSl(r:V->Option Int->Option Int->Hp->VK->Prop)(te:TE)(tl th:TO):TE:=fun σ H Q=>te σ H fun x H1=>tl σ H1 fun l H2=>th σ H2 fun u H3=>r x l u H3 Q
theorem Yi{r:V->Option Int->Option Int->Hp->VK->Prop}(j:SlR X r)(y:PE X e te)(p:PO X lo tl)(G:PO X hi th):PE X (.Subscript e (.Slice lo hi none p2) pos) (tSl r te tl th):=by
 intro a s f H Q I h
 refine Subscript_ (thn (y a s f H _ I h) fun v F d=>?_)
 obtain⟨x,K,B,C,E⟩:=d
 refine wpAny_Slice (thn (p a F f K _ B E) fun vl s2 ⟨l,H2,I2,pl,q2⟩=>thn (G a s2 f H2 _ I2 q2) fun g c d=>?_)
 obtain⟨u,i,k,J,o⟩:=d
 rw[evalPart_none]
 refine kQ ?_
 have m:Inv X a f i { c with heap:=c.heap.push { cls:=.type "slice",data:=.fields #[vl,g,.none] } }:=k.kept (t':=c.toks) fun b L q=>jK _ q
 obtain⟨T,id,z,D,n⟩:=j a { c with heap:=c.heap.push { cls:=.type "slice",data:=.fields #[vl,g,.none] } } f i x v vl g l u (qa c) Q m C (Heap.IsSliceOf.new ..) pl J o
 show qd X X.A (subscriptTail e (.Slice lo hi none p2) v (.ref (qa c))) (EP X a f Q) X.xe { c with heap:=c.heap.push { cls:=.type "slice",data:=.fields #[vl,g,.none] } }
 exact tail_any (ops:=[.ref (qa c),v]) D z n (by with_unfolding_all rfl)
def cutV(xs:List V)(lo hi:Option Int):List V:=(xs.drop (HT.sIx xs.length 0 lo)).take (HT.sIx xs.length xs.length hi-HT.sIx xs.length 0 lo)
theorem Zw(xs:List V)(lo a:Option Int):(cutV xs lo a).length<=xs.length:=by
 unfold cutV
 rw[yY,wY]
 lia
def rSlT(K:Fg):V->Option Int->Option Int->Hp->VK->Prop:=fun x lo hi H Q=>∃a xs,x=.ref a/\SqT K H a xs /\
 ¬(HT.sIx xs.length 0 lo=0/\HT.sIx xs.length xs.length hi=xs.length)/\∀p,H p=none->Q (.ref p) (upd H p (.tup (cutV xs lo hi)))
theorem Qdj:SlR X (rSlT X.K):=by
 intro i s y H x v B C e f z Q I n m l u h
 obtain⟨a,d,rfl,w,p,q⟩:=h
 cases n
 obtain⟨g,r,k,j⟩:=I.tuple w
 have c:g.toArray.size=d.length:=by rw[kX];exact r.length.symm
 exists "tuple",_,PyProof.Rows.slot_tuple_getitem.lookup,k.typeIs,?_
 refine HT.getItem_tuple_cut k m l u (by rw[c];exact p) ?_ (by rw[c];exact j)
 rw[c]
 exists .ref (qa s),_,I.laid (t':=s.toks) (o:=.tup (cutV d e f)) (fun b A q=>jK _ q) (jJ _) ?_,rfl,q _ (I.hok.fresh (jJ _))
 exists jZf (Zw d e f) j,_,(r.drop (HT.sIx d.length 0 e)).take (HT.sIx d.length d.length f-HT.sIx d.length 0 e),IsTup.new _ _
def rCatT(K:Fg):R2:=fun x y H Q=>∃a b xs ys,x=.ref a/\y=.ref b/\SqT K H a xs/\SqT K H b ys/\xs≠[]/\xs.length+ys.length<=sizeLine /\
 (ys=[]->Q (.ref a) H)/\(ys≠[]->∀p,H p=none->Q (.ref p) (upd H p (.tup (xs++ys))))
theorem Vals.nil_iff(r:Vals xs us):us=[]↔xs=[]:=by
 cases r with
 |nil=>simp
 |cons _ _=>simp
theorem Qdy:OpR X (binaryOp .Add) (rCatT X.K):=by
 intro f s E H x y v u Q I l j h
 obtain⟨a,b,p,A,rfl,rfl,m,C,D,g,n,B⟩:=h
 cases l
 cases j
 obtain⟨r,d,i,_⟩:=I.tuple m
 obtain⟨e,c,k,_⟩:=I.tuple C
 refine HT.cat_tup i k (fun z=>D (d.nil_iff.mp z)) (fun z=>⟨.ref a,H,I,rfl,n (c.nil_iff.mp z)⟩) (fun z=>?_) (by rw[<-d.length,<-c.length];exact g)
 exists .ref (qa s),_,I.laid (t':=s.toks) (o:=.tup (p++A)) (fun b F q=>jK _ q) (jJ _) ?_,rfl,B (fun w=>z (c.nil_iff.mpr w)) _ (I.hok.fresh (jJ _))
 exists by rw[jV];exact g,_,d.append c,IsTup.new _ _
end
def ixN(n:Nat)(i:Int):Option Nat:=if 0<=i then(if i<n then some i.toNat else none)else if -(n:Int)<=i then some (i+n).toNat else none
def atI{α:Type}(xs:List α)(i:Int):Option α:=(ixN xs.length i).bind fun j=>xs[j]?
theorem Qmp{i:Int}(h:ixN n i=some j):seqIndex? i n=some j/\j<n/\-(n:Int)<=i/\i<n:=by
 unfold ixN at h
 by_cases b:0<=i
 .rw[Y22 b]at h
  by_cases a:i<n
  .rw[Y22 a]at h
   have e:i.toNat=j:=Y5 h
   exists by rw[seqIndex_of b a,e],Om,Om,a
  .rw[Y20 a]at h;cases h
 .rw[Y20 b]at h
  by_cases a:-(n:Int)<=i
  .rw[Y22 a]at h
   have e:(i+n).toNat=j:=Y5 h
   exists by rw[seqIndex_neg Om a,e],Om,a,Om
  .rw[Y20 a]at h;cases h
theorem Qhs{α:Type}{xs:List α}{i:Int}{v:α}(h:atI xs i=some v):∃j,seqIndex? i xs.length=some j/\xs[j]?=some v/\j<xs.length/\-(xs.length:Int)<=i/\i<xs.length:=by
 unfold atI at h
 cases e:ixN xs.length i with
 |none=>rw[e]at h;cases h
 |some j=>
  rw[e]at h
  obtain⟨b,a,c,d⟩:=Qmp e
  exists j,b,h,a,c,d
theorem Zx{α:Type}{xs:List α}{v:α}(h:xs[j]?=some v):atI xs (j:Int)=some v:=by
 have a:j<xs.length:=(jW.mp h).1
 have e:ixN xs.length (j:Int)=some j:=by
  unfold ixN
  rw[Y22 Om,Y22 Om];simp
 unfold atI;rw[e];exact h
def Qmq(b:Expr):Prop:=∀o i,subscripted b false o i=operate [o,i] (getItem o i)
def IxR(X:Cx)(r:R2):Prop :=
 ∀(value slice:Expr) (pins:Z8) (s:Shared) (σ:St) (H:Hp) (x y:V) (v u:Value) (Q:VK),qI H s->RelV x v->RelV y u->r x y H Q ->
  subscripted slice false v u=operate [v,u] (getItem v u)->qd X X.A (subscriptTail value slice v u) (EP X pins σ Q) X.xe s
def MtR(X:Cx)(id:String)(r:V->List V->Hp->VK->Prop):Prop :=
 ∀(pins:Z8) (s:Shared) (σ:St) (H:Hp) (x:V) (xs:List V) (v:Value) (us:List Value) (Q:VK),qI H s->RelV x v->Vals xs us->r x xs H Q ->
  qd X X.A (call (.builtin id) (v::us)) (EP X pins σ Q) X.xe s
section
variable{a b:Expr}{ta tb:TE}
theorem IxR.or{r r':R2}(h:IxR X r)(h':IxR X r'):IxR X (fun x y H Q=>r x y H Q\/r' x y H Q):=by
 intro b a c s e H x y v u Q I d f q g
 rcases q with q | q
 .exact h b a c s e H x y v u Q I d f q g
 .exact h' b a c s e H x y v u Q I d f q g
theorem Qo{r:R2}(i:IxR X r)(l:PE X a ta)(j:PE X b tb)(d:Qmq b:=by exact fun _ _=>rfl):PE X (.Subscript a b pos) (tOp r ta tb):=by
 intro c s g H Q I h
 exact Subscript_ (binT l j I h fun v u n x y e m f k q=>i a b c n g e x y v u Q m f k q (d _ _))
inductive rIxL(K:Fg)(x y:V)(H:Hp)(Q:VK):Prop|mk(p:Addr)(xs:List V)(i:Int)(v:V)(a:x=.ref p)(b:y=.int i)(c:SqL K H p xs)(d:atI xs i=some v)(q:Q v H):rIxL K x y H Q
inductive rIxT(K:Fg)(x y:V)(H:Hp)(Q:VK):Prop|mk(p:Addr)(xs:List V)(i:Int)(v:V)(a:x=.ref p)(b:y=.int i)(c:SqT K H p xs)(d:atI xs i=some v)(q:Q v H):rIxT K x y H Q
theorem ix_list:IxR X (rIxL X.K):=by
 intro g c a s m H x y v u Q I L A h n
 obtain⟨p,P,i,z,rfl,rfl,J,E,q⟩:=h
 cases L
 obtain⟨t,rfl⟩:=A
 obtain⟨k,r,d,N⟩:=I.list J
 obtain⟨j,b,F,O,D,B⟩:=Qhs E
 obtain⟨w,l,f⟩:=r.get F
 have C:=r.length
 have M:=Qfv
 have fin:EP X a m Q w s:=⟨z,H,I,f,q⟩
 by_cases o:0<=i
 .have e:i.toNat=j:=by
   rw[seqIndex_of o B]at b
   exact Y5 b
  exact item_listR d.isList o Om (by rw[e];simpa using l) fin n
 .have e:(i+(k.toArray.size:Int)).toNat=j:=by
   rw[seqIndex_neg Om D]at b
   rw[kX,<-C]
   exact Y5 b
  exact subscriptTail_builtinR (x:=w) d.isList.typeIs slot_list_getitem.lookup
   (wpAny_getItem_list_neg (Q:=fun r G=>r=w/\EP X a m Q r G) d.isList Om (by rw[kX]<;>lia) Om (by rw[e];simpa using l) ⟨rfl,fin⟩) n
theorem Qm:IxR X (rIxT X.K):=by
 intro d b a s f H x y v u Q I E k h l
 obtain⟨p,N,i,z,rfl,rfl,C,n,q⟩:=h
 cases E
 obtain⟨t,rfl⟩:=k
 obtain⟨D,r,e,J⟩:=I.tuple C
 obtain⟨j,A,o,L,M,G⟩:=Qhs n
 obtain⟨w,g,c⟩:=r.get o
 have m:=r.length
 have F:=Qfv
 have fin:EP X a f Q w s:=⟨z,H,I,c,q⟩
 exact subscriptTail_builtinR (x:=w) e.typeIs slot_tuple_getitem.lookup
  (getItem_tuple (j:=j) (Q:=fun r B=>r=w/\EP X a f Q r B) e Om Om (by rw[kX,<-m];exact A) (by simpa using g) ⟨rfl,fin⟩) l
theorem Qlc(its:List Value)(n j:Nat)(u:Value):Obj.mapSeq (·.setIfInBounds j u) { cls:=.type "list",data:=.seq its.toArray n }={ cls:=.type "list",data:=.seq (its.set j u).toArray n }:=by
 simp[Obj.mapSeq]
theorem Inv.lst{pins:Z8}{σ:St}{H:Hp}{s:Shared}{p:Addr}{xs:List V}(I:qI H s)(h:H p=some (.lst xs)) :
  ∃(its:List Value) (n:Nat),Vals xs its/\s.heap.get? p=some { cls:=.type "list",data:=.seq its.toArray n }/\xs.length<=sizeLine:=by
 obtain⟨z,its,n,r,e⟩:=I.hok p _ h
 exists its,n,r,e,z
theorem Inv.lstUpd{p:Addr}{f:Obj->Obj}(I:qI H s)(h:H p=some (.lst xs))
  (d:s.heap.get? p=some { cls:=.type "list",data:=.seq its.toArray n }) (a:f { cls:=.type "list",data:=.seq its.toArray n }={ cls:=.type "list",data:=.seq its'.toArray n' }) (r:Vals ys its') (hz:ys.length<=sizeLine) (t:Nat) :
  qI (upd H p (.lst ys)) { s with heap:=s.heap.update p f,toks:=t }:=by
 have e:(s.heap.update p f).get? p=some { cls:=.type "list",data:=.seq its'.toArray n' }:=by
  rw[kJe f d (by rw[a]<;>rfl),a]
 refine I.write (x:=p) (e:=p) (by rw[h];trivial) (.inl rfl) (fun b u c q=>(Heap.get?_update_other _ _ (Ne.symm c)).trans q) ⟨_,e⟩ ?_
 exists hz,its',n',r,e
def rSetL:V->V->V->Hp->(Hp->Prop)->Prop:=fun o i v H Q=>∃p xs k j,o=.ref p/\i=.int k/\H p=some (.lst xs)/\ixN xs.length k=some j/\Q (upd H p (.lst (xs.set j v)))
theorem set_list:PSet X rSetL:=by
 intro a s A H o i v J K u Q I y z D h
 obtain⟨p,E,k,j,rfl,rfl,m,C,q⟩:=h
 cases y
 obtain⟨t,rfl⟩:=z
 obtain⟨b,n,r,e,B⟩:=I.lst m
 obtain⟨c,G,g,l⟩:=Qmp C
 have d:=r.length
 have F:=Qfv
 have w:Inv X a A (upd H p (.lst (E.set j v))) { s with heap:=s.heap.update p (Obj.mapSeq (·.setIfInBounds j u)) } :=
  I.lstUpd m e (Qlc b n j u) (r.set D j) (by rw[jQb];exact B) s.toks
 by_cases x:0<=k
 .have f:k.toNat=j:=by
   rw[seqIndex_of x l]at c
   exact Y5 c
  exact PySem.W.ki_setAt e x Om (by rw[kX,<-d];exact l) (by rw[f];exists _,w,q)
 .have f:(k+(b.toArray.size:Int)).toNat=j:=by
   rw[seqIndex_neg Om g]at c
   rw[kX,<-d]
   exact Y5 c
  exact PySem.W.ki_setBack e Om (by rw[kX,<-d];exact g) Om (by rw[f];exists _,w,q)
theorem Qbr(i:Int)(n d:Nat):max 0 (min (if i<0 then i+(n:Int)else i) (n:Int))=((HT.sIx n d (some i):Nat):Int):=by
 rw[<-HT.clip_eq]
 by_cases h:i<0
 .rw[Y22 h,Y22 h,Int.min_eq_left (by have:=Int.add_le_add_right (Int.le_of_lt h) (n:Int);rwa [kJb]at this),Int.max_comm]
 .rw[Y20 h,Y20 h,HT.min_cast i n h,Int.max_eq_right (jYe _)]
theorem Qgb(lo a:Option Int)(n:Nat):(sliceBounds lo a none n).1=((HT.sIx n 0 lo:Nat):Int)/\(sliceBounds lo a none n).2.1=((HT.sIx n n a:Nat):Int)/\(sliceBounds lo a none n).2.2=1:=by
 exists ?_,?_,rfl
 .cases lo with
  |none=>rfl
  |some i=>exact Qbr i n 0
 .cases a with
  |none=>rfl
  |some i=>exact Qbr i n n
theorem Qdz(its:List Value)(lo a:Option Int):slicePick its.toArray lo a none=((its.drop (HT.sIx its.length 0 lo)).take (HT.sIx its.length its.length a-HT.sIx its.length 0 lo)).toArray:=by
 obtain⟨d,c,b⟩:=Qgb lo a its.toArray.size
 unfold slicePick
 rw[d,c,b]
 simp only[sliceRange_one,pick_run,kX]<;>rfl
def rSlL(K:Fg):V->Option Int->Option Int->Hp->VK->Prop:=fun x lo hi H Q=>∃a xs,x=.ref a/\SqL K H a xs/\∀p,H p=none->Q (.ref p) (upd H p (.lst (cutV xs lo hi)))
theorem Kg:SlR X (rSlL X.K):=by
 intro i s y H x v z B e f A Q I p u k n h
 obtain⟨a,c,rfl,j,q⟩:=h
 cases p
 obtain⟨l,r,g,m⟩:=I.list j
 have d:=r.length
 exists "list",_,slot_list_getitem.lookup,g.isList.typeIs,?_
 refine wpAny_getItem_list_slice g.isList u k n .none (by simp) ?_ (by rw[kX]<;>lia)
 rw[Qdz,<-d]
 exists .ref (qa s),_,I.laid (t':=s.toks) (o:=.lst (cutV c e f)) (fun b w q=>jK _ q) (jJ _) ?_,rfl,q _ (I.hok.fresh (jJ _))
 exists jZf (Zw c e f) m,_,0,(r.drop (HT.sIx c.length 0 e)).take (HT.sIx c.length c.length f-HT.sIx c.length 0 e),yZ _ rfl
def Qai:V->Bool
 |.non=>true
 |.bl _=>true
 |.int _=>true
 |.str _=>true
 |_=>false
def eqV:V->V->Bool
 |.non,.non=>true
 |.bl a,.bl b=>a == b
 |.bl a,.int b=>(if a then 1 else 0) == b
 |.int a,.bl b=>a == (if b then 1 else 0)
 |.int a,.int b=>a == b
 |.str a,.str b=>a == b
 |_,_=>false
theorem Qtd{x:V}{v:Value}(f:RelV y u)(c:RelV x v)(g:Qai y=true)(e:Qai x=true):SeqAt.EqAt A s u v (eqV y x):=by
 cases y with
 |non=>
  cases f
  cases x with
  |non=>cases c;exact SeqAt.EqAt.same _
  |bl b=>cases c;exact SeqAt.EqAt.none_bool b
  |int b=>obtain⟨t,rfl⟩:=c;exact SeqAt.EqAt.none_int b t
  |str b=>obtain⟨t,rfl⟩:=c;exact SeqAt.EqAt.none_str b t
  |_=>exact Y21 (show false=true from e) yX
 |bl a=>
  cases f
  cases x with
  |non=>cases c;exact SeqAt.EqAt.bool_none a
  |bl b=>cases c;exact SeqAt.EqAt.bool_bool a b
  |int b=>obtain⟨t,rfl⟩:=c;exact SeqAt.EqAt.bool_int a b t
  |str b=>obtain⟨t,rfl⟩:=c;exact SeqAt.EqAt.bool_str a b t
  |_=>exact Y21 (show false=true from e) yX
 |int a=>
  obtain⟨d,rfl⟩:=f
  cases x with
  |non=>cases c;exact SeqAt.EqAt.int_none a d
  |bl b=>cases c;exact SeqAt.EqAt.int_bool a d b
  |int b=>obtain⟨t,rfl⟩:=c;exact SeqAt.EqAt.int_int a d b t
  |str b=>obtain⟨t,rfl⟩:=c;exact SeqAt.EqAt.int_str a d b t
  |_=>exact Y21 (show false=true from e) yX
 |str a=>
  obtain⟨d,rfl⟩:=f
  cases x with
  |non=>cases c;exact SeqAt.EqAt.str_none a d
  |bl b=>cases c;exact SeqAt.EqAt.str_bool a d b
  |int b=>obtain⟨t,rfl⟩:=c;exact SeqAt.EqAt.str_int a d b t
  |str b=>obtain⟨t,rfl⟩:=c;exact SeqAt.EqAt.str_str a d b t
  |_=>exact Y21 (show false=true from e) yX
 |_=>exact Y21 (show false=true from g) yX
def eqU(x:V)(u:Value):Bool:=match u with
 |.none=>eqV .non x
 |.bool b=>eqV (.bl b) x
 |.int i _=>eqV (.int i) x
 |.str z _=>eqV (.str z) x
 |_=>false
theorem Qte{x:V}(r:RelV y u)(f:Qai y=true):eqU x u=eqV y x:=by
 cases y with
 |non=>cases r;rfl
 |bl b=>cases r;rfl
 |int i=>obtain⟨t,rfl⟩:=r;rfl
 |str z=>obtain⟨t,rfl⟩:=r;rfl
 |_=>exact Y21 (show false=true from f) yX
theorem Qbs{x:V}:∀{xs:List V} {us:List Value},Vals xs us->xs.all Qai=true->us.any (eqU x)=xs.any fun y=>eqV y x
 |_,_,.nil,_=>rfl
 |y::xs,u::us,.cons r t,f=>by
  rw[List.all_cons,wZ]at f
  rw[kYf,kYf,Qte r f.1,Qbs t f.2]
theorem Wk{A:Around}{s:Shared}{x:V}{v:Value}(a:RelV x v)(b:Qai x=true):∀{xs:List V} {us:List Value},Vals xs us->xs.all Qai=true->∀u∈us,SeqAt.EqAt A s u v (eqU x u)
 |_,_,.nil,_=>fun u hu=>by cases hu
 |y::xs,u::us,.cons r t,f=>fun c hu=>by
  rw[List.all_cons,wZ]at f
  rcases yK.mp hu with rfl | hu
  .rw[Qte r f.1];exact Qtd r a f.1 b
  .exact Wk a b t f.2 c hu
def inV(x:V)(xs:List V):Bool:=xs.any fun y=>eqV y x
def rIn(K:Fg)(neg:Bool):R2:=fun x y H Q=>∃p xs,y=.ref p/\(SqL K H p xs\/SqT K H p xs)/\Qai x=true/\xs.all Qai=true/\Q (.bl (if neg then !inV x xs else inV x xs)) H
theorem Wl:OpR X (compareOp .In) (rIn X.K false):=by
 intro e s k H x y v u Q I f g h
 obtain⟨p,j,rfl,hq,d,fs,q⟩:=h
 cases g
 rcases hq with hq | hq
 .obtain⟨a,r,b,i⟩:=I.list hq
  refine SeqAt.in_listAt (eqU x) b.isList (fun w c=>Wk f d r fs w (by simpa using c)) ⟨.bl _,H,I,rfl,?_⟩
  rw[show a.toArray.any (eqU x)=a.any (eqU x)by simp,Qbs r fs]
  exact q
 .obtain⟨a,r,b,i⟩:=I.tuple hq
  refine SeqAt.in_tupleAt (eqU x) b (fun w c=>Wk f d r fs w (by simpa using c)) ⟨.bl _,H,I,rfl,?_⟩
  rw[show a.toArray.any (eqU x)=a.any (eqU x)by simp,Qbs r fs]
  exact q
theorem Kz:OpR X (compareOp .NotIn) (rIn X.K true):=by
 intro e s k H x y v u Q I f g h
 obtain⟨p,j,rfl,hq,d,fs,q⟩:=h
 cases g
 rcases hq with hq | hq
 .obtain⟨a,r,b,i⟩:=I.list hq
  refine SeqAt.notIn_listAt (eqU x) b.isList (fun w c=>Wk f d r fs w (by simpa using c)) ⟨.bl _,H,I,rfl,?_⟩
  rw[show a.toArray.any (eqU x)=a.any (eqU x)by simp,Qbs r fs]
  exact q
 .obtain⟨a,r,b,i⟩:=I.tuple hq
  refine SeqAt.notIn_tupleAt (eqU x) b (fun w c=>Wk f d r fs w (by simpa using c)) ⟨.bl _,H,I,rfl,?_⟩
  rw[show a.toArray.any (eqU x)=a.any (eqU x)by simp,Qbs r fs]
  exact q
theorem Ql:Jv X (.builtin "len") (fun xs H Q=>∃p ys,xs=[.ref p]/\(SqL X.K H p ys\/SqT X.K H p ys)/\Q (.int ys.length) H):=by
 intro e s i H xs k Q I r h
 obtain⟨p,ys,rfl,hq,q⟩:=h
 obtain⟨u,rfl,g⟩:=vals1 r
 cases g
 have j:=Qfv
 rcases hq with hq | hq
 .obtain⟨d,c,b,f⟩:=I.list hq
  have a:=c.length
  exact Calls.call_len_list b.isList (by simp only[kX]<;>lia) ⟨.int ys.length,H,I.tok _,⟨s.toks+1,by rw[kX,a]⟩,q⟩
 .obtain⟨d,c,b,f⟩:=I.tuple hq
  have a:=c.length
  exact len_tuple b (by simp only[kX]<;>lia) ⟨.int ys.length,H,I.tok _,⟨s.toks+1,by rw[kX,a]⟩,q⟩
theorem Zk:Jv X (.type "list") (fun xs H Q=>∃p ys,xs=[.ref p]/\(SqL X.K H p ys\/SqT X.K H p ys)/\∀l,H l=none->Q (.ref l) (upd H l (.lst ys))):=by
 intro j s A H xs C Q I r h
 obtain⟨p,ys,rfl,hq,q⟩:=h
 obtain⟨u,rfl,B⟩:=vals1 r
 cases B
 have fin:∀(a:List Value),Vals ys a->ys.length<=sizeLine->∀(d:Heap) (g:Nat),(∀b o',s.heap.get? b=some o'->d.get? b=some o') ->
   d.get? (qa s)=some { cls:=.type "list",dict:=none,data:=.seq a.toArray g,slots:=#[] }->EP X j A Q (.ref (qa s)) { s with heap:=d }:=fun a f k d g i e=>
  ⟨.ref (qa s),_,I.laid (t':=s.toks) i (jJ _) (show ObjOk X.prog X.w _ d _ (.lst ys)from⟨k,a,g,f,e⟩),rfl,q _ (I.hok.fresh (jJ _))⟩
 rcases hq with hq | hq
 .obtain⟨a,f,v,k⟩:=I.list hq
  have m:=f.length
  obtain⟨o,z,x,n,y⟩:=v.isList
  exact call_list_seq p (.inl rfl) z x y (fun d g i e=>fin a f k d g i e) (by simp only[kX]<;>lia)
 .obtain⟨a,f,v,k⟩:=I.tuple hq
  have m:=f.length
  obtain⟨o,z,x,n,y⟩:=v
  exact call_list_seq p (.inr rfl) z x y (fun d g i e=>fin a f k d g i e) (by simp only[kX]<;>lia)
theorem Xb:Jv X (.type "tuple") (fun xs H Q=>∃p ys,xs=[.ref p]/\((SqL X.K H p ys/\∀l,H l=none->Q (.ref l) (upd H l (.tup ys)))\/(SqT X.K H p ys/\Q (.ref p) H))):=by
 intro a s k H xs z Q I r h
 obtain⟨p,ys,rfl,h⟩:=h
 obtain⟨u,rfl,x⟩:=vals1 r
 cases x
 rcases h with⟨i,q⟩ | ⟨i,q⟩
 .obtain⟨c,g,f,m⟩:=I.list i
  have n:=g.length
  refine call_tuple_list f.isList (fun d v=>?_) (by simp only[kX]<;>lia)
  have j:Inv X a k H { s with heap:=d }:=I.kept (t':=s.toks) v
  have y:Inv X a k (upd H d.objs.size (.tup ys)) { s with heap:=d.push { cls:=.type "tuple",data:=.seq c.toArray } } :=
   j.laid (t':=s.toks) (fun b o e=>jK _ e) (jJ _) (show ObjOk X.prog X.w _ _ _ (.tup ys)from⟨m,c,g,IsTup.new _ _⟩)
  exists .ref d.objs.size,_,y,rfl,q _ (j.hok.fresh (jJ _))
 .obtain⟨c,g,f,m⟩:=I.tuple i
  exact call_tuple_same f ⟨.ref p,H,I,rfl,q⟩
def tyV(K:Fg)(T:String)(x:V)(H:Hp):Prop:=match x with
 |.str _=>T="str"
 |.int _=>T="int"
 |.ref p=>(T="list"/\∃xs,SqL K H p xs)\/(T="tuple"/\∃o,K.lookup p=some o/\o.cls=.type "tuple"/\o.dict=none) \/
   (T="dict"/\((∃kvs,H p=some (.dK kvs))\/∃kvs,H p=some (.dT kvs)))\/(T="set"/\∃S n,H p=some (.set S n))
 |_=>False
theorem tyV_is{x:V}{v:Value}(I:qI H s)(r:RelV x v)(d:tyV X.K T x H) :
  s.TypeIs v T/\∀a,v=.ref a->∃ob,s.heap.get? a=some ob/\ob.dict=none:=by
 cases x with
 |str z=>
  obtain⟨t,rfl⟩:=r
  cases(show T="str" from d)
  exists typeIs_str s z t,fun _ e=>nomatch e
 |int i=>
  obtain⟨t,rfl⟩:=r
  cases(show T="int" from d)
  exists typeIs_int s i t,fun _ e=>nomatch e
 |ref p=>
  cases r
  rcases d with⟨rfl,q,l⟩ | ⟨rfl,o,b,k,h⟩ | ⟨rfl,b⟩ | ⟨rfl,S,n,b⟩
  .obtain⟨m,_,j,_⟩:=I.list l
   exists j.isList.typeIs,fun a e=>?_
   cases e
   obtain⟨o,n,e,c,h,_⟩:=j
   exists o,e,h
  .refine⟨⟨o,I.kIn p o b,k⟩,fun a e=>?_⟩
   cases e
   exists o,I.kIn _ o b,h
  .have z:∃o,s.heap.get? p=some o/\o.ExactDict:=by
    rcases b with⟨g,b⟩ | ⟨g,b⟩
    .obtain⟨_,_,_,_,o,_,_,e,ex,_⟩:=I.hok p _ b
     exists o,e,ex
    .obtain⟨_,_,_,_,o,_,_,e,ex,_⟩:=I.hok p _ b
     exists o,e,ex
   obtain⟨o,e,ex⟩:=z
   exists ⟨o,e,ex.1⟩,fun a f=>?_
   cases f
   exists o,e,ex.2.1
  .obtain⟨o,_,_,_,e,ex,_⟩:=I.hok p _ b
   exists ⟨o,e,ex.1⟩,fun a f=>?_
   cases f
   exists o,e,ex.2.1
 |_=>exact False.elim d
def tBM(K:Fg)(T:String)(r:V->List V->Hp->VK->Prop)(to:TE)(t:TA):TE:=fun σ H Q=>to σ H fun x H1=>tyV K T x H1/\t σ H1 fun xs H2=>r x xs H2 Q
variable{o:Expr}{to:TE}{t:TA}{name:Str}{apos cpos:Pos}{id:String}{r:V->List V->Hp->VK->Prop}
theorem Va(q:PlainAttrs T)(f:Slot T name id)(k:typeOf (.builtin id)=pure (.type "method_descriptor"))(E:MtR X id r)(w:PE X o to)(A:PA X (e::es) t)
  (c:qb (attributeBase o name X.env (eval o X.env)=eval o X.env))
  (g:((backTo cpos (starEach (e::es) X.env)).all (fun x=>!x.1)&&(backToKw cpos (keywordEach [] X.env)).all (fun x=>x.1.isSome)
   && decide ((e::es).length+([]:List Keyword).length+(if ([]:List Keyword).isEmpty then 0 else 1)<30))=true:=by rfl)
  (d:qb ((apos.endLine == cpos.line)=true)) (p:qb (starEach (e::es) X.env=(false,eval e X.env)::starEach es X.env)) (b:qb ((backTo cpos (starEach es X.env)).any (·.1)=false)) :
  PE X (.Call (.Attribute o name apos) (e::es) [] cpos) (tBM X.K T r to t):=by
 intro a s j H Q I h
 refine wpAny_Call_method_late c g d rfl (thn (w a s j H _ I h) fun v C i=>?_)
 obtain⟨x,D,m,n,u,B⟩:=i
 obtain⟨z,y⟩:=tyV_is m n u
 exists T,id,q,f,k,z,y,?_
 have l:=A cpos a C j D _ m B
 rw[p]at l⊢
 refine Calls.callWith_builtin (by show(false||(backTo cpos (starEach es X.env)).any (·.1))=false;rw[b]<;>rfl) (Calls.evalArgs_plain ?_)
 exact thn l fun us s2 ⟨vs,H2,I2,r2,q2⟩=>E a s2 j H2 x vs v us Q I2 n r2 q2
end
def MtM(X:Cx)(id:String)(r:V->List V->Hp->VK->Prop):Prop :=
 ∀(pins:Z8) (s:Shared) (σ:St) (H:Hp) (x:V) (xs:List V) (v:Value) (us:List Value) (Q:VK),qI H s->RelV x v->Vals xs us->r x xs H Q ->
  qd X X.A (call (.builtin id) (v::us)) (EP X pins σ Q) X.xe s
theorem Vals.one{x:V}(h:Vals [x] us):∃u,us=[u]/\RelV x u:=by
 cases h with
 |cons r t=>cases t;exists 4,r
theorem Vals.two{x:V}(h:Vals [x,y] us):∃u v,us=[u,v]/\RelV x u/\RelV y v:=by
 cases h with
 |cons r t=>
  cases t with
  |cons q t=>cases t;exists _,4,r,q
theorem Vals.reverse(h:Vals xs us):Vals xs.reverse us.reverse:=by
 induction h with
 |nil=>exact .nil
 |cons r t ih=>rw[List.reverse_cons,List.reverse_cons];exact Vals.append ih (.cons r .nil)
theorem Vals.rep{xs:List V}{us:List Value}(h:Vals xs us):∀k:Nat,Vals (qg k xs).flatten (qg k us).flatten
 |0=>.nil
 |k+1=>by
  rw[jYc,jYc,kQb,kQb]
  exact Vals.append h (Vals.rep h k)
theorem foldl_rep(its:List Value):∀(k:Nat) (acc:List Value),
  List.foldl (fun x1 x2=>x1++x2) acc.toArray (qg k its.toArray)=(acc++(qg k its).flatten).toArray
 |0,acc=>by simp
 |k+1,acc=>by
  have e:acc.toArray++its.toArray=(acc++its).toArray:=by simp
  have a:(acc++its)++(qg k its).flatten=acc++(qg (k+1) its).flatten:=by
   rw[jYc,kQb,List.append_assoc]
  rw[<-a,<-foldl_rep its k (acc++its),<-e,jYc,jKb]
theorem Inv.lset{f:Array Value->Array Value}(I:qI H s)(a:H l=some (.lst xs))
  (e:s.heap.get? l=some { cls:=.type "list",data:=.seq its.toArray n }) (d:f its.toArray=its'.toArray) (hv:Vals ys its') (hz:ys.length<=sizeLine) :
  qI (upd H l (.lst ys)) { s with heap:=s.heap.update l (Obj.mapSeq f),toks:=t' }:=by
 have q:=PySem.IsL.update e f
 rw[d]at q
 refine I.write (x:=l) (e:=l) (by rw[a];exact trivial) (.inl rfl) (fun h u g c=>(Heap.get?_update_other s.heap (Obj.mapSeq f) (Ne.symm g)).trans c) ⟨_,q⟩ ?_
 exists hz,its',_,hv,q
theorem Inv.lnew(I:qI H s)(hv:Vals ys its)(hz:ys.length<=sizeLine) :
  qI (upd H (qa s) (.lst ys)) { s with heap:=s.heap.push { cls:=.type "list",data:=.seq its.toArray },toks:=t' } :=
 I.laid (fun _ _ q=>jK _ q) (jJ _) ⟨hz,its,0,hv,yZ _ rfl⟩
theorem Inv.fresh(I:qI H s):H (qa s)=none:=I.hok.fresh (jJ _)
theorem Inv.lstM(I:qI H s)(a:H l=some (.lst xs)):xs.length<=sizeLine/\∃(its:List Value) (n:Nat),Vals xs its/\xs.length=its.length/\s.heap.get? l=some { cls:=.type "list",data:=.seq its.toArray n }:=by
 obtain⟨z,its,n,r,e⟩:=I.hok l _ a
 exists z,its,n,r,r.length,e
theorem Qqm(h:n<=sizeLine):Builtin.List.listTooLong n=false:=by
 unfold Builtin.List.listTooLong
 exact yV Om
def Quh:V->List V->Hp->VK->Prop:=fun x vs H Q=>∃l xs y,x=.ref l/\vs=[y]/\H l=some (.lst xs)/\xs.length<sizeLine/\Q .non (upd H l (.lst (xs++[y])))
theorem Xx:MtM X "list.append" Quh:=by
 intro c s m H x i v p Q I f d h
 obtain⟨l,k,y,rfl,rfl,b,o,q⟩:=h
 cases f
 obtain⟨u,rfl,g⟩:=d.one
 obtain⟨z,a,n,r,j,e⟩:=I.lstM b
 refine call_meets F.slot_list_append ⟨_,e,rfl⟩ F.entry_list_append (F.args_list_append_2 _ _) (PySem.list_append l a.toArray n u (by rw[kX];lia)) ⟨e,?_⟩
 exists .non,_,I.lset (its':=a++[u]) b e (by simp) (r.append (.cons g .nil)) ?_,rfl,q
 rw[jV,kJf]
 lia
def rCat:R2:=fun x y H Q=>∃l b xs zs,x=.ref l/\y=.ref b/\H l=some (.lst xs)/\H b=some (.lst zs)/\xs.length+zs.length<=sizeLine/\∀p,H p=none->Q (.ref p) (upd H p (.lst (xs++zs)))
theorem Qgc:OpR X (binaryOp .Add) rCat:=by
 intro d s E H x y v u Q I f o h
 obtain⟨l,b,C,D,rfl,rfl,g,i,F,q⟩:=h
 cases f
 cases o
 obtain⟨z,c,n,r,A,e⟩:=I.lstM g
 obtain⟨w,a,B,j,p,m⟩:=I.lstM i
 refine PySem.P.add_list e m ?_ (by rw[kX,kX];lia)
 have k:c.toArray++a.toArray=(c++a).toArray:=by simp
 rw[k]
 exists .ref _,_,I.lnew (t':=s.toks) (r.append j) (by rw[jV];lia),rfl,q _ I.fresh
def rRep:R2:=fun x y H Q=>∃l k xs,x=.ref l/\y=.int k/\H l=some (.lst xs)/\-(2 ^ 63)<=k/\k<2 ^ 63/\xs.length*k.toNat<=sizeLine /\
 ∀p,H p=none->Q (.ref p) (upd H p (.lst (qg k.toNat xs).flatten))
theorem len_rep{α:Type}(xs:List α)(k:Nat):(qg k xs).flatten.length=k*xs.length:=by
 induction k with
 |zero=>simp
 |succ k ih=>rw[jYc,kQb,jV,ih,Nat.succ_mul,Nat.add_comm]
theorem Vb:OpR X (binaryOp .Mult) rRep:=by
 intro p s L H x y v u Q I K A h
 obtain⟨l,k,M,rfl,rfl,J,E,D,w,q⟩:=h
 cases K
 obtain⟨t,rfl⟩:=A
 obtain⟨z,b,n,r,B,e⟩:=I.lstM J
 have i:b.toArray.size*k.toNat<=sizeLine:=by rw[kX,<-B];exact w
 have g:¬b.toArray.size*k.toNat > (2 ^ 63-1) / 8:=by
  have:(sizeLine:Nat)<=(2 ^ 63-1) / 8:=Dc
  lia
 have f:¬(!Builtin.List.listFitsIndex k)=true:=by
  rw[fitsIndex_both E D]
  exact yX
 have c:¬Builtin.List.listTooLong (b.toArray.size*k.toNat)=true:=by
  rw[Qqm i]
  exact yX
 have d:List.foldl (fun o j=>o++j) #[] (qg (if b.toArray.isEmpty=true then 0 else k.toNat) b.toArray)=(qg k.toNat b).flatten.toArray:=by
  have C:∀m:Nat,List.foldl (fun o j=>o++j) #[] (qg m b.toArray)=(qg m b).flatten.toArray:=fun m=>by
   have:=foldl_rep b m []
   rw[List.nil_append]at this
   exact this
  rw[C]
  cases b with
  |nil=>simp
  |cons a r'=>rw[Y20 (by simp)]
 refine wpAny_binaryOp_repeat_ref (T:="list") (U:="int") Dc ⟨_,e,rfl⟩ (fun G=>typeIs_int G k t) noFill_list_mul F.fills_int_mul F.slot_int_rmul repeat_list F.slot_int_index.lookup
  (call_meets F.slot_int_rmul (typeIs_int s k t) F.entry_int_rmul (F.args_int_rmul_2 _ _) (int___rmul___int_list k t l b.toArray n)
   ⟨e,rfl,⟨_,e,rfl⟩,call_meets F.slot_list_mul ⟨_,e,rfl⟩ F.entry_list_mul (F.args_list_mul_2 _ _) (AutoListH.list___mul___list_int_3 l b.toArray n k t f g c) ⟨e,?_⟩⟩)
 rw[d]
 exists .ref _,_,I.lnew (t':=s.toks) (r.rep k.toNat) (by rw[len_rep,Nat.mul_comm];exact w),rfl,q _ I.fresh
end L2
namespace Att
open PySem PySem.W PySem.Calls PyProof.Rows
theorem Qbt{P:Params}:∀(ns:List Int) (vs:List Value),WellAll P h vs (ns.map WData.int)->IntsAre vs ns:=by
 intro ns
 induction ns with
 |nil=>
  intro vs w
  rw[kYa]at w
  cases w
  exact .nil
 |cons n ns ih=>
  intro vs w
  rw[xX]at w
  cases w with
  |cons a b=>
   cases a
   exact .cons _ _ (ih _ b)
theorem Qmr{l:OpenLaw}(s:l.most=some n){P:Params}{args:List WData}{vals:List Value}
  (b:l.row.toRowW.claim.pre args=true) (i:WellAll P h vals args) :
  ∃a vs ns,vals=[Value.ref a]/\args=[WData.list (ns.map WData.int)]/\h.get? a=some { cls:=.type "list",data:=.seq vs.toArray }/\IntsAre vs ns/\ns.length<=n:=by
 have g:WShape.hasAll [] args [.list .int]=true:=(pre_splitW b).1
 have j:l.pre.holds [] { args:=args }=true:=(pre_splitW b).2
 obtain⟨d,r,rfl,m,k⟩:=hasAllW_cons g
 obtain rfl:=hasAllW_nil k
 obtain⟨t,rfl,o⟩:=hasW_list m
 obtain⟨ns,rfl⟩:=items_int o
 have c:ns.length<=n:=by
  unfold OpenLaw.pre at j
  have f:(WTm.not (.lt (.lit (.int (n:Int))) (.len (.arg 0)))).holds [] { args:=[.list (ns.map .int)] }=true:=by
   have f:=(holds_andW j).1
   rw[s]at f
   exact f
  have e:=condW_of f (w_not (w_lt w_lit (w_len_list (w_arg rfl))))
  rw[jQ]at e
  refine Nat.le_of_not_lt fun q=>?_
  have p:(n:Int)<(ns.length:Int):=Om
  first
   |(rw[yJ p]at e;exact Y21 e Dc)
   |(simp at e;lia)
 cases i with
 |cons w1 w2=>
  cases w2
  cases w1 with
  |list ho hall=>exists _,_,ns,rfl,rfl,ho,Qbt ns _ hall,c
theorem Qms(l:OpenLaw)(args:List WData):l.row.toRowW.claim.post args (.bool true) args=true :=
 postW_of (r:=l.row.toRowW) (X:=(true == true))
  (show WShape.has [] (.bool true) .bool=true by first | rfl | decide | simp[WShape.has,WShape.arms,WShape.armsAll])
  (show(WTm.eq .res (.lit (.bool true))).value [] { args:=args,res:=some (.bool true),after:=args }=some (.bool (true == true))from w_eq_bool (w_res rfl) w_lit) rfl
end Att
namespace L2
open PySem PySem.Spec PyProof.Rows
theorem Qgd:∀{vs:List Value} {ns:List Int},IntsAre vs ns->Vals (ns.map V.int) vs
 |_,_,.nil=>.nil
 |_,_,.cons n t h=>.cons ⟨t,rfl⟩ (Qgd h)
def Only(H:Hp):Prop:=∀b,H b=none\/∃o xs,H b=some (.frz o (.lst xs))
theorem Qqn{mb:Z9}{CX:CXT}{k:Nat}{fa:Addr}{s₁:Shared}{vs:List Value}
  (R:K.In s₁.heap) (p:s₁.heap.Ns mainGlobals mg) (f:s₁.heap.Ns builtinsNs mb) (G:∀x:Str,x≠"__name__"->mb x=bootBuiltins x) (A:s₁.heap.NoLimit) (hg:s₁.gens=#[])
  (E:s₁.heap.get? a=some { cls:=.type "list",data:=.seq vs.toArray }) (Q:IntsAre vs ns) (S:ns.length<=sizeLine) (Z:Room k callerA)
  (F:∀base:Heap,K.In base->base.Ns mainGlobals mg->FnOk P w K mg base CX k fa fd [x] sp) (j:∀(s:Shared) (u:Value),BindsTo s fd ⟨[u],[]⟩ [(x,u)])
  (I:∀H:Hp,Only H->SqL K H a (ns.map V.int)->sp [.ref a] H (fun v _=>v=.bl true) fun _ _ _=>False)
  (M:∀H e s',CX [] H s₁ (fun _ _ _=>False) e s'->False) :
  codeAny (model P w) callerA (.call (.ref fa) ⟨[.ref a],[]⟩) (fun r s'=>r=.ok (.ret (.bool true))/\OldK s₁.heap s'.heap/\s'.os=s₁.os/\AllBare s'.gens) s₁:=by
 have U:=Qgd Q
 have y:=Q.length
 -- from an abstract heap in which nothing but the script may be tracked
 have i:∀H:Hp,Only H->SqL K H a (ns.map V.int)->HOk P w H s₁.heap->(∀b,H b≠none->b=a)->(H a≠none->K.lookup a=none) ->
   codeAny (model P w) callerA (.call (.ref fa) ⟨[.ref a],[]⟩) (fun r s'=>r=.ok (.ret (.bool true))/\OldK s₁.heap s'.heap/\s'.os=s₁.os/\AllBare s'.gens) s₁:=by
  intro H T hS C O hK
  have c:∀{b:Addr} {o:Obj},s₁.heap.get? b=some o->H b=none->(hidT s₁.heap H).get? b=some o:=fun e n=>Qqe e n
  have N:∀{b:Addr} {o:Obj} {es:Array DictEntry} {ep:Nat},s₁.heap.get? b=some o->o.data=.dict es ep->H b=none:=fun{b o es ep} e d=>by
   cases q:H b with
   |none=>rfl
   |some u=>
    have L:b=a:=O b (by rw[q];simp)
    subst L
    rw[E]at e;cases e
    have d':Data.seq vs.toArray _=Data.dict es ep:=d
    cases d'
  have g:∀{b:Addr} {m:Z9},s₁.heap.Ns b m->(hidT s₁.heap H).Ns b m:=fun{b m} ⟨o,es,ep,e,d,r⟩=>⟨o,es,ep,c e (N e d),d,r⟩
  have D:K.In (hidT s₁.heap H):=fun b o e=>c (R b o e) (by
   cases q:H b with
   |none=>rfl
   |some u=>
    have L:b=a:=O b (by rw[q];simp)
    subst L
    rw[hK (by rw[q];simp)]at e;cases e)
  have Y:Mod K mg (hidT s₁.heap H):=⟨D,g p,⟨mb,g f,G⟩,let ⟨mc,h1,h2⟩:=A;⟨mc,g h1,h2⟩⟩
  have e0:Env0 P w K mg (hidT s₁.heap H) callerA [] s₁ H:=⟨rfl,Y,fun b o e=>Qtz e,Nat.le_of_eq (Qma _ _),trivial,fun b f=>Y21 (show b∈([]:List Addr)from f) (by simp),C,.of_eq hg⟩
  refine codeAny_mono ((F _ D (g p)).run callerA [] s₁ H ⟨[.ref a],[]⟩ [.ref a] [.ref a] _ _ Z e0 (j s₁ (.ref a)) (.cons rfl .nil) (I H T hS)) fun r s' h=>?_
  cases r with
  |error e=>exact(M H e s' h).elim
  |ok fl=>
   cases fl with
   |next=>exact False.elim h
   |brk=>exact False.elim h
   |cont=>exact False.elim h
   |ret u=>
    obtain⟨v,H',os,l,un,B,X,q⟩:=h
    have q':v=.bl true:=q
    subst q'
    obtain rfl:u=Value.bool true:=X
    exists rfl,OldK.of_keep fun b o e=>?_,os,l
    cases q:H b with
    |none=>exact un.keep b o e q (by intro z;exact Y21 (show b∈([]:List Addr)from z) (by simp)) (by simp)
    |some u=>
     rcases T b with z | ⟨ob,xs,z⟩
     .rw[q]at z;cases z
     .have z2:=un.frzs b ob _ z
      obtain⟨W,_⟩:=C b _ z
      obtain⟨e2,_⟩:=B b _ z2
      rw[e]at W;cases W
      exact e2
 cases J:K.lookup a with
 |some o=>
  -- the script is one of the module's own objects
  have e:=R a o J
  rw[E]at e
  cases e
  refine i (fun _=>none) (fun _=>.inl rfl) (.inr ⟨_,vs.toArray,_,J,rfl,rfl,rfl,by rw[kX,y];exact S,by simpa using U⟩) (fun b u z=>by have t:(none:Option HO)=some u:=z;cases t) (fun b z=>Y21 rfl z) fun z=>Y21 rfl z
 |none=>
  refine i (fun b=>if b=a then some (.frz { cls:=.type "list",data:=.seq vs.toArray } (.lst (ns.map V.int)))else none) (fun b=>?_) (.inl (.inr ⟨{ cls:=.type "list",data:=.seq vs.toArray },Y22 rfl⟩)) (fun b u z=>?_) (fun b z=>?_) fun _=>J
  .by_cases f:b=a
   .exact .inr ⟨_,_,Y22 f⟩
   .exact .inl (Y20 f)
  .by_cases f:b=a
   .have t:=(Y22 f).symm.trans z
    cases t
    subst f
    exists E,by rw[jQ];exact S,vs,_,U,E
   .have t:=(Y20 f).symm.trans z
    cases t
  .by_cases f:b=a
   .exact f
   .exact Y21 (Y20 f) z
abbrev KOf{K:Fg}{h:Heap}(_:K.In h):Fg:=K
end L2
namespace L2
open PySem PySem.Spec PyProof.Rows
def inClass(s:Stmt)(j:Nat):Stmt:=match s with
 |.ClassDef _ _ _ body _ _ _ _ _ _ _=>body.getD j (.Pass ⟨0,0,0,0⟩)
 |_=>.Pass ⟨0,0,0,0⟩
def Qw(s:Stmt):Arguments:=match s with
 |.FunctionDef _ a _ _ _ _ _ _ _ _=>a
 |_=>{ posonlyargs:=[],args:=[],vararg:=none,kwonlyargs:=[],kw_defaults:=[],kwarg:=none,defaults:=[] }
def Qv(s:Stmt):List Stmt:=match s with
 |.FunctionDef _ _ b _ _ _ _ _ _ _=>b
 |_=>[]
def Qf(s:Stmt):Scope:=match s with
 |.FunctionDef _ _ _ _ _ _ sc _ _ _=>sc
 |_=>{ kind:=.function,names:=[],isGenerator:=false,isCoroutine:=false }
abbrev CX0:CXT:=fun _ _ _ _ _ _=>False
abbrev E0:XK:=fun _ _ _=>False
theorem Qmt:Qdh CX0 X E0:=fun _ _ _ _ _ _ _ h=>h.elim
structure Fun(K:Fg)(x qual:Str)(st:Stmt)(f:Addr)(fd:FuncData):Prop where
 ex:∃(oc:Value) (od:Option Addr) (kV doc pm:Value) (an:Option Addr) (cdv ct:Value) (osl:Array (Option Value)),
  fd=PySem.W.fnOf x qual (Qw st) (Qv st) (Qf st) .none kV doc pm an cdv ct/\K.lookup f=some ⟨oc,od,.func fd,osl⟩/\PySem.W.codeIn K cdv qual=true
 kp:PySem.W.keepIn K (.ref f)=true
theorem Fun.ok{ps:List Str}{k:Nat}(F:Fun K x qual st f fd)(S:FnScope N ps (Qf st))(len:autoParam (∀vs H Q E,sp vs H Q E->vs.length=ps.length) J8._auto_1)
  (a:∀(cdv:Value) (A:Around) (outer:List Env) (s:Shared) (H:Hp) (vs:List V) (Q:VK) (E:XK),Room k (A.deeper (envOfC qual (Qf st) (qa s) f cdv))->sp vs H Q E ->
   ∃t,PSs (cxOf CX0 P w K mg base N qual (Qf st) f cdv A outer s H E).nox (Qv st) t/\t { nx:=fun _ H'=>Q .non H',rt:=Q } (start N vs) H):FnOk P w K mg base CX0 (k+1) f fd ps sp:=by
 obtain⟨n,m,kV,i,j,l,cdv,o,d,rfl,e,c⟩:=F.ex
 refine fn_of e c S len fun A outer s H vs Q E g b=>?_
 obtain⟨t,h,q⟩:=a cdv A outer s H vs Q E g b
 exists t,h.nox,q
theorem Fun.binds{ps:List Str}(F:Fun K x qual st f fd)
  (h:autoParam (∀(kV doc pm:Value) (an:Option Addr) (cdv ct:Value) (us:List Value),us.length=ps.length->bindArgs (PySem.W.fnOf x qual (Qw st) (Qv st) (Qf st) .none kV doc pm an cdv ct) ⟨us,[]⟩=pure (ps.zip us)) J7._auto_1):Binds K fd ps []:=by
 obtain⟨d,c,kV,doc,pm,an,cdv,ct,a,rfl,e,b⟩:=F.ex
 exact .all (h kV doc pm an cdv ct)
theorem Qjd{kV:Value}(l:K.lookup f=some ⟨oc,od,.func (PySem.W.fnOf x qual (Qw st) (Qv st) (Qf st) .none kV doc pm an cdv ct),osl⟩)
  (c:PySem.W.codeIn K cdv qual=true) (k:PySem.W.keepIn K (.ref f)=true):Fun K x qual st f (PySem.W.fnOf x qual (Qw st) (Qv st) (Qf st) .none kV doc pm an cdv ct):=⟨⟨oc,od,kV,doc,pm,an,cdv,ct,osl,rfl,l,c⟩,k⟩
theorem pv(i:Nat)(b:qb (X.N[i]?=some x))(hv:Vis X.env.scope x:=by first | exact inl rfl | exact Or.inr (inl rfl) | exact Or.inr (Or.inr rfl))(c:qc ((x == ("__debug__":Str))=false))
  (a:qc ((x == ("__classdict__":Str))=false)):PE X (.Name x pos) (tVar i):=pe_var b hv c a
theorem iteF{A B:Prop}(h:B):if false=true then A else B:=by
 rw[Y20 yX]
 exact h
theorem iteT{A B:Prop}(h:A):if true=true then A else B:=by
 rw[Y22 rfl]
 exact h
theorem ite2{c A B:Prop}[Decidable c](b:c->A)(a:¬c->B):if c then A else B:=by
 by_cases h:c
 .rw[Y22 h]
  exact b h
 .rw[Y20 h]
  exact a h
def Same(H H':Hp):Prop:=∀b o,H b=some o->H' b=some o
theorem Same.refl(H:Hp):Same H H:=fun _ _ h=>h
theorem Same.trans{H2:Hp}(a:Same H H1)(b:Same H1 H2):Same H H2:=fun c o h=>b c o (a c o h)
theorem Same.seq(e:Same H H')(h:SqL K H a xs):SqL K H' a xs:=by
 rcases h with(h | ⟨o,h⟩) | h
 .exact .inl (.inl (e _ _ h))
 .exact .inl (.inr ⟨o,e _ _ h⟩)
 .exact .inr h
theorem Qge{target:Expr}{it acc:Value}{env:Env}(I:Nat->Shared->Prop)
  (b:∀n s,I n s->qe prog w A (pyNext it) (fun r s1=>match r with
   |none=>R (.ok .next) s1
   |some v=>qe prog w A (letOwnedTupleGo target it v) (fun _ s1'=>qe prog w A (assign target env v) (fun _ s2=>
     qe prog w A (forIn ifs true fun c r=>if r=true then do let ok ← isTrue c env (eval c env);pure (ForInStep.yield ok)else pure (ForInStep.yield r)) (fun ok s3=>
      if ok=true then qe prog w A (eval elt env) (fun x s4=>
       qe prog w A (call (.builtin "list.append") [acc,x]) (fun _ s5=>∃m,m<n/\I m s5) (fun _ _=>False) s4) (fun _ _=>False) s3
      else ∃m,m<n/\I m s3) (fun _ _=>False) s2) (fun _ _=>False) s1') (fun _ _=>False) s1) (fun _ _=>False) s)
  (n:Nat) (h:I n s) :
  codeAny (model prog w) A (.compLoop (.ListComp elt [⟨target,iter,ifs,0⟩] scope pos) 0 it acc env) R s:=by
 refine codeAny_loop rfl I (fun n s i=>?_) n h
 show wpAny _ A ((compTurn (.ListComp elt [⟨target,iter,ifs,0⟩] scope pos) 0 it acc env).onRaise (fun x=>do noteFrame x env;theTreesLotGoes x)) _ _ s
 refine wpAny_noted ?_
 rw[compTurn_list]
 refine jX (wpAny_standAt (jX (Y29 (b n s i) (fun r s1 e=>?_) fun _ _ a=>a.elim)))
 cases r with
 |none=>exact kQ e
 |some v=>
  refine jX (Y29 e (fun _ s1' d=>?_) fun _ _ a=>a.elim)
  refine jX (Y29 d (fun _ s2 j=>jX (Y29 j (fun ok s3 f=>?_) fun _ _ a=>a.elim)) fun _ _ a=>a.elim)
  cases ok with
  |false=>exact kQ ⟨rfl,f⟩
  |true=>
   exact jX (jX (Y29 f (fun x s4 k=>jX (Y29 k (fun _ s5 g=>kQ (kQ ⟨rfl,g⟩)) fun _ _ a=>a.elim)) fun _ _ a=>a.elim))
def freeOk(sc:Scope):List (Str×NameKind)->Bool
 |[]=>true
 |(n,k)::r=>(k != .free||sc.names.lookup n == some .cell||sc.names.lookup n == some .free)&&freeOk sc r
def Zy(env:Env):List (Str×NameKind)->List (Str×Addr)->List (Str×Addr)
 |[],cs=>cs
 |(n,k)::r,cs=>Zy env r (if k=.free then(n,(env.cells.lookup n).getD 0)::cs else cs)
theorem Wa{env:Env}:∀(l:List (Str×NameKind)) (cs:List (Str×Addr)),(∀n,(n,NameKind.free)∈l->∃c,env.cells.lookup n=some c)->(∀x c,cs.lookup x=some c->env.cells.lookup x=some c) ->
  ∀x c,(Zy env l cs).lookup x=some c->env.cells.lookup x=some c
 |[],cs,_,h=>h
 |(n,k)::r,cs,hl,h=>by
  refine Wa r _ (fun m f=>hl m (yW _ f)) fun x c e=>?_
  by_cases a:k=.free
  .rw[Y22 a]at e
   subst a
   obtain⟨g,d⟩:=hl n kZ
   rw[jJf]at e
   cases b:x == n with
   |true=>
    rw[b]at e
    have:x=n:=by simpa using b
    subst this
    rw[d]at e
    simp at e
    rw[d,e]
   |false=>rw[b]at e;exact h x c e
  .rw[Y20 a]at e
   exact h x c e
theorem Wb{env:Env}:∀(l:List (Str×NameKind)) (cs:List (Str×Addr)) (x:Str),((cs.lookup x).isSome=true\/(x,NameKind.free)∈l)->((Zy env l cs).lookup x).isSome=true
 |[],cs,x,h=>by
  rcases h with h | h
  .exact h
  .exact nomatch h
 |(n,k)::r,cs,x,h=>by
  refine Wb r _ x ?_
  rcases h with h | h
  .left
   split
   .rw[jJf]
    split
    .rfl
    .exact h
   .exact h
  .rcases yK.mp h with e | e
   .cases e
    left
    rw[Y22 rfl,jJf]
    simp
   .exact .inr e
theorem Kq{env:Env}(h:∀n,(n,NameKind.free)∈scope.names->∃c,env.cells.lookup n=some c):closureFor scope env=pure (Zy env scope.names []):=by
 unfold closureFor
 suffices ∀(l:List (Str×NameKind)) (b:List (Str×Addr)),(∀n,(n,NameKind.free)∈l->∃c,env.cells.lookup n=some c)->(forIn l b fun x r=>
   if (x.2 == NameKind.free)=true then do let a ← cellOf env x.1;pure (ForInStep.yield ((x.1,a)::r))else pure (ForInStep.yield r):Sem _)=pure (Zy env l b)by
  have:=this scope.names [] h
  simp only at this⊢
  rw[this]
  rfl
 intro l
 induction l with
 |nil=>intro b _;rfl
 |cons p r ih=>
  intro b f
  obtain⟨n,k⟩:=p
  rw[List.forIn_cons]
  by_cases d:k=.free
  .subst d
   obtain⟨c,j⟩:=f n kZ
   have e:cellOf env n=pure c:=by unfold cellOf;rw[j]
   have g:(NameKind.free == NameKind.free)=true:=rfl
   simp only[g,if_true,e,Zy,j,Option.getD_some]
   exact ih _ fun m i=>f m (yW _ i)
  .have g:(k == NameKind.free)=false:=by simpa using d
   simp only[g,wV,if_false,Zy,Y20 d]
   exact ih _ fun m i=>f m (yW _ i)
theorem Jn{sc:Scope}:∀{l:List (Str×NameKind)},freeOk sc l=true->∀n,(n,NameKind.free)∈l->sc.names.lookup n=some .cell\/sc.names.lookup n=some .free
 |[],_,n,h=>nomatch h
 |(m,k)::r,h,n,c=>by
  simp only[freeOk,wZ]at h
  rcases yK.mp c with e | e
  .cases e
   have a:=h.1
   have b:(NameKind.free != NameKind.free)=false:=rfl
   rw[b]at a
   simp only[Bool.false_or,jZc,beq_iff_eq]at a
   exact a
  .exact Jn h.2 n e
theorem Yz{env:Env}:∀{names:List (Str×NameKind)} {x:Str} {k:NameKind},(names.map fun(n,k)=>if (k == NameKind.free&&env.scope.kind == .function&&env.kindOf n == some .cell)then(n,NameKind.cell)else(n,k)).lookup x=some k ->
  ∃k0,names.lookup x=some k0/\(k=k0\/(k=.cell/\k0=.free))
 |[],_,_,h=>by simp at h
 |(n,k0)::r,x,k,h=>by
  rw[xX]at h
  by_cases b:(k0 == NameKind.free&&env.scope.kind == .function&&env.kindOf n == some .cell)=true
  .simp only[b,if_true,jJf]at h
   rw[jJf]
   cases a:x == n with
   |true=>
    rw[a]at h
    exists k0,rfl,.inr ⟨(Y5 h).symm,?_⟩
    simp only[wZ,beq_iff_eq]at b
    exact b.1.1
   |false=>rw[a]at h;exact Yz h
  .simp only[b,wV,if_false,jJf]at h
   rw[jJf]
   cases a:x == n with
   |true=>rw[a]at h;exists k0,rfl,.inl (Y5 h).symm
   |false=>rw[a]at h;exact Yz h
theorem lookup_mem{α:Type}:∀{l:List (Str×α)} {x:Str} {k:α},l.lookup x=some k->(x,k)∈l
 |[],_,_,h=>by simp at h
 |(n,k0)::r,x,k,h=>by
  rw[jJf]at h
  cases a:x == n with
  |true=>
   rw[a]at h
   have c:x=n:=by simpa using a
   have b:k0=k:=Y5 h
   subst c b
   exact kZ
  |false=>rw[a]at h;exact yW _ (lookup_mem h)
def Qbu(cp:List (Option Nat))(σ:St):St:=cp.map fun(o:Option Nat)=>match o with
 |none=>none
 |some j=>match σ[(j:Nat)]? with
  |some v=>v
  |none=>none
def Wm(X:Cx)(scope:Scope):List Str->List (Option Nat)->Bool
 |[],[]=>true
 |x::N,o::cp=>(match o with | none=>true | some j=>X.N[j]? == some x&&scope.names.lookup x == some .free)&&Wm X scope N cp
 |_,_=>false
theorem Qgf{X:Cx}{scope:Scope}:∀{N:List Str} {cp:List (Option Nat)},Wm X scope N cp=true->cp.length=N.length
 |[],[],_=>rfl
 |_::N,_::cp,h=>by
  simp only[Wm,wZ]at h
  simp[Qgf h.2]
 |[],_::_,h=>by simp[Wm]at h
 |_::_,[],h=>by simp[Wm]at h
theorem Qgg{X:Cx}{scope:Scope}:∀{N:List Str} {cp:List (Option Nat)} {i:Nat} {x:Str} {v:V} {σ:St},Wm X scope N cp=true->N[i]?=some x->(Qbu cp σ)[i]?=some (some v) ->
  ∃j:Nat,X.N[j]?=some x/\σ[j]?=some (some v)/\scope.names.lookup x=some .free
 |[],[],i,x,v,σ,_,h,_=>by simp at h
 |y::N,o::cp,0,x,v,σ,h,e,e2=>by
  simp only[Wm,wZ]at h
  have b:y=x:=by simpa using e
  subst b
  cases o with
  |none=>simp[Qbu]at e2
  |some j=>
   have a:=h.1
   simp only[wZ,beq_iff_eq]at a
   exists j,a.1,?_,a.2
   simp only[Qbu,xX,List.getElem?_cons_zero,Option.some.injEq]at e2
   cases q:σ[j]? with
   |none=>rw[q]at e2;cases e2
   |some z=>rw[q]at e2;exact congrArg some e2
 |y::N,o::cp,i+1,x,v,σ,h,e,e2=>by
  simp only[Wm,wZ]at h
  exact Qgg (i:=i) h.2 (by simpa using e) (by simpa[Qbu]using e2)
 |[],_::_,_,_,_,_,h,_,_=>by simp[Wm]at h
 |_::_,[],_,_,_,_,h,_,_=>by simp[Wm]at h
def Ye(X:Cx)(N:List Str)(scope:Scope)(fp:List Addr)(H:Hp)(s:Shared):Cx :=
 { X with N:=N,s₀:=s,H₀:=H,env:=compEnvC scope (Zy X.env scope.names []) (qa s) X.env,outer:=X.stack,stack:=X.stack,ex:=fp,fn:=fun _=>false,pn:=[],xe:=fun _ _=>False }
theorem Qdk{l:List (Str×NameKind)}(h:(l.all fun p=>p.2 != .cell)=true):∀y∈l,y.2≠.cell:=fun y a=>by
 have:=jXe.mp h y a
 simpa using this
theorem Qld(I:qI H s)(j:∀b∈fp,FpOk X pins H b)(m:∀b∈fp,b<(qa s))(u:scope.kind=.function)
  (a:(scope.names.all fun p=>p.2 != .cell)=true) (d:freeOk X.env.scope scope.names=true):(Ye X N scope fp H s).Ok:=by
 have has:∀n,(n,NameKind.free)∈scope.names->∃c,X.env.cells.lookup n=some c:=fun n r=>I.ok.has n (Jn d n r)
 have f:∀x c,(Zy X.env scope.names []).lookup x=some c->X.env.cells.lookup x=some c:=Wa _ _ has fun x c e=>by simp at e
 have fs:∀b∈fp,b∉frs X.stack:=fun b g z=>by
  obtain⟨_,w,t,_⟩:=j b g
  rcases yK.mp (I.stkSub b z)with e | e
  .exact w e
  .exact t e
 refine⟨I.ok.mod,u,I.ok.glob,I.ok.blt,jJ _,fun x y c B A=>I.ok.inj x y c (f x c B) (f y c A),fun x D=>?_,(fun x c h=>nomatch h),I.ok.hd,I.ok.frames,.inl rfl,fun b g=>⟨xQ (m b g),fun x c e=>(j b g).2.2.2.2.1 x c (f x c e)⟩,
  I.bs,jZf I.ok.bsz I.sz,fun b o e g=>?_,fs,I.stack,I.stkFree⟩
 ·have l:(scope.names.map fun (n,k)=>if (k == NameKind.free && X.env.scope.kind == .function && X.env.kindOf n == some .cell) then (n,NameKind.cell) else (n,k)).lookup x=some .cell \/
    (scope.names.map fun(n,k)=>if (k == NameKind.free&&X.env.scope.kind == .function&&X.env.kindOf n == some .cell)then(n,NameKind.cell)else(n,k)).lookup x=some .free:=D
  have v:(x,NameKind.free)∈scope.names:=by
   rcases l with e | e
   .obtain⟨q,i,z | z⟩:=Yz e
    .subst z
     exact Y21 rfl (Qdk a _ (lookup_mem i))
    .obtain⟨_,z⟩:=z
     subst z
     exact lookup_mem i
   .obtain⟨q,i,z | z⟩:=Yz e
    .subst z
     exact lookup_mem i
    .exact nomatch z.1
  exact jJa.mp (Wb _ _ x (.inr v))
 .obtain⟨_,_,_,C,_⟩:=j b g
  rcases C with z | z
  .exact I.ok.noex b o e z
  .exact Y21 (xV (zQ (I.ok.bs b o e).1) z) (jKf _)
theorem Qmu{m:Z9}(I:qI H s)(L:∀b∈fp,FpOk X pins H b)(G:∀b∈fp,b<(qa s))(Q:scope.kind=.function)
  (g:(scope.names.all fun p=>p.2 != .cell)=true) (a:freeOk X.env.scope scope.names=true) (f:Wm X scope N cp=true)
  (C:h'.Ns (qa s) m) (w:∀b o,s.heap.get? b=some o->h'.get? b=some o):Inv (Ye X N scope fp H s) [] (Qbu cp σ) H { s with heap:=h',toks:=t' }:=by
 have has:∀n,(n,NameKind.free)∈scope.names->∃c,X.env.cells.lookup n=some c:=fun n M=>I.ok.has n (Jn a n M)
 have q:∀x c,(Zy X.env scope.names []).lookup x=some c->X.env.cells.lookup x=some c:=Wa _ _ has fun x c e=>by simp at e
 exists Qld I L G Q g a,rfl,I.bare,⟨fun b o e n _ _=>w b o e,fun b o e n _ _=>⟨o.slots,w b o e⟩,fun b o e n _=>n,fun b o e _=>⟨o,w b o e⟩,fun b Y e=>e,fun b o Y e=>e,fun b ps e=>⟨#[],by rw[Array.append_empty];exact e⟩⟩,⟨m,C,fun i x v S W Z=>?_⟩,fun x c e=>?_,I.hok.fresh (jJ _),fun x c e=>I.freeC x c (q x c e),(fun p T=>nomatch T),I.hok.kept w,?_
 .obtain⟨j,V,U,D⟩:=Qgg f S W
  obtain⟨m',_,O⟩:=I.loc
  have A:=Jn a x (lookup_mem D)
  obtain⟨u,r,l⟩:=O j x v V U (.inr A)
  rcases l with⟨l,_⟩ | ⟨_,c,R,d⟩
  .rcases A with z | z
   .exact nomatch (Y5 (l.symm.trans z))
   .exact nomatch (Y5 (l.symm.trans z))
  .obtain⟨P,B⟩:=jJa.mp (Wb (env:=X.env) scope.names [] x (.inr (lookup_mem D)))
   have K:=q x P B
   rw[R]at K
   cases K
   exists u,r,.inr ⟨?_,c,B,?_⟩
   .rcases Z with z | z | z
    .obtain⟨k0,J,y | y⟩:=Yz (show(scope.names.map fun(n,k)=>if (k == NameKind.free&&X.env.scope.kind == .function&&X.env.kindOf n == some .cell)then(n,NameKind.cell)else(n,k)).lookup x=some .local from z)
     .rw[D]at J;cases J;cases y
     .exact nomatch y.1
    .exact .inl z
    .exact .inr z
   .obtain⟨o,F,E⟩:=d
    exists o,w c o F,E
 .obtain⟨v,o,F,E⟩:=I.cell x c (q x c e)
  exists v,o,w c o F,E
 .show(Qbu cp σ).length=N.length
  unfold Qbu
  rw[jQ]
  exact Qgf f
theorem Qht{σ':St}{s':Shared}{pins':Z8}(I:qI H s)(c:∀b∈fp,FpOk X pins H b)
  (J:Inv (Ye X N scope fp H s) pins' σ' H' s'):qI H' s' :=
 I.call' (ch:=fp) J.os J.base J.hok J.bare fun b a=>⟨(c b a).2.2.2.1,(c b a).2.1,(c b a).2.2.2.2.1,(c b a).2.2.2.2.2⟩
def PF(X:Cx)(ifs:List Expr)(t:TT):Prop :=
 ∀(pins:Z8) (s:Shared) (σ:St) (H:Hp) (Q:Bool->Hp->Prop),qI H s->t σ H Q ->
  qd X X.A (forIn ifs true fun c r=>if r=true then do let ok ← isTrue c X.env (eval c X.env);pure (ForInStep.yield ok)else pure (ForInStep.yield r)) (TP X pins σ Q) X.xe s
def tYes:TT:=fun _ H Q=>Q true H
theorem Yc:PF X [] tYes:=fun _ _ _ H _ I h=>wpAny_tests_nil ⟨H,I,h⟩
theorem pf_one{c:Expr}{t:TT}(d:PT X c t):PF X [c] t:=fun a s b H Q I h=>wpAny_tests_one (d a s b H Q I h)
def LcW(J:It)(D:Addr)(τ0:St)(H:Hp)(g:TG)(tt:TT)(te:TE)(Q:Addr->Hp->Prop):Prop:=∃W:Nat->Nat->St->List V->Hp->Prop,(∃m,W 0 m τ0 [] (upd H D (.lst [])))/\∀i m τ ys H,W i m τ ys H ->
 H D=some (.lst ys)/\((J.stop i H/\Q D H)\/(J.go i H/\ys.length<sizeLine/\∃(N1:St->V->Hp->Prop) (N2:St->Hp->Prop),(∀τ v H,N1 τ v H->∃m',m'<m/\W (i+1) m' τ (ys++[v]) (upd H D (.lst (ys++[v]))))/\(∀τ H,N2 τ H->∃m',m'<m/\W (i+1) m' τ ys H) /\
  ∀x H',J.yld i H x H'->g x τ H' fun σ2 H2=>tt σ2 H2 fun ok H3=>if ok=true then te σ2 H3 fun v H4=>H4 D=some (.lst ys)/\N1 σ2 v H4 else N2 σ2 H3))
def tLC(cp:List (Option Nat))(wi:TI)(g:TG)(tt:TT)(te:TE)(σ:St)(H:Hp)(Q:Addr->Hp->Prop):Prop:=wi σ H fun J H1=>∀D,H1 D=none->LcW J D (Qbu cp σ) H1 g tt te Q
theorem Qje{target:Expr}{g:TG}{Q:Addr->Hp->Prop}
    {tn:Nat->Heap->Prop}  {RR:Value->Addr->Result->Shared->Prop} (hc:X.calm=true) (hk:scope.kind=.function) (q:(scope.names.all fun p=>p.2 != .cell)=true) (S:freeOk X.env.scope scope.names=true) (ac:Wm X scope N cp=true)
  (hg:∀fp H s,PG (Ye X N scope fp H s) target g) (ht:∀fp H s,PF (Ye X N scope fp H s) ifs tt) (he:∀fp H s,PE (Ye X N scope fp H s) elt te)
  (I:qI H s) (T:Turn X.prog X.w X.K target J fp it tn) (st:tn 0 s.heap) (hf:∀b∈fp,FpOk X pins H b)
  (h:∀D,H D=none->LcW J D (Qbu cp σ) H g tt te Q)
  (aj:∀D C s' H' m,qI H' s'->FpOk X pins H' C->s'.heap.Ns C m->Q D H'->RR (.ref D) C (.ok .next) s') :
  qd X X.A (newList []) (fun acc s3=>qd X X.A (newFunctionEnv scope X.env.globals (Zy X.env scope.names []) [] X.env.qual none .none (some X.env)) (fun cenv s4=>
   codeAny (model X.prog X.w) X.A (.compStart (.ListComp elt [⟨target,iter,ifs,0⟩] scope pos) 0 (.ref it) acc { cenv with scope:=relabel scope X.env }) (RR acc cenv.locals) s4) E s3) E s:=by
 have ae:∀b∈fp,b<(qa s):=fun b c=>by
  obtain⟨o,e,_⟩:=T.obj _ _ st b c
  exact zQ e
 refine Y26 (wpAny_newFunctionEnv (Qdk q) (by intro y hy;simp at hy) (fun V j l=>?_) hk)
 dsimp only at j l⊢
 have hD:H (qa s)=none:=I.hok.fresh (jJ _)
 have I3:qI (upd H (qa s) (.lst [])) { s with heap:=s.heap.push { cls:=.type "list",dict:=none,data:=.seq ([]:List Value).toArray } } :=
  I.laid (t':=s.toks) (fun b u e=>jK _ e) (jJ _) ⟨jZb _,[],0,.nil,yZ _ rfl⟩
 have R:∀b∈fp,FpOk X pins (upd H (qa s) (.lst [])) b:=fun b c=>⟨by rw[Qj (xQ (ae b c))];exact(hf b c).1,(hf b c).2⟩
 have M:∀b∈fp,b<(s.heap.push { cls:=.type "list",dict:=none,data:=.seq ([]:List Value).toArray }).objs.size:=fun b c=>by rw[jKa];exact Nat.lt_succ_of_lt (ae b c)
 generalize an:s.heap.push { cls:=.type "list",dict:=none,data:=.seq ([]:List Value).toArray }=H2 at j l I3 M⊢
 generalize aa:({ s with heap:=H2 }:Shared)=s3 at I3
 have f:s3.heap=H2:=by rw[<-aa]
 have L:∀b o,s3.heap.get? b=some o->V.get? b=some o:=fun b o e=>by
  rw[f]at e
  exact l.extBut b o (xQ (zQ e)) (jK _ e)
 have J0:Inv (Ye X N scope fp (upd H (qa s) (.lst [])) s3) [] (Qbu cp σ) (upd H (qa s) (.lst [])) { s3 with heap:=V,toks:=s.toks+([]:List (Str×Value)).length } :=
  Qmu I3 R (by rw[f];exact M) hk q S ac (by rw[f];exact j) L
 have ag:tn 0 V:=T.keep _ _ _ st fun b c o e=>L b o (by rw[f,<-an];exact jK _ e)
 obtain⟨W,⟨m0,w0⟩,ad⟩:=h (qa s) hD
 have k:∀{H':Hp},(∀b∈fp,H' b=none)->∀b∈fp,FpOk (Ye X N scope fp (upd H (qa s) (.lst [])) s3) [] H' b:=fun{H'} hn b c=>
  ⟨hn b c,(J0.ok.exf b c).1,J0.ok.exfs b c,.inl c,(J0.ok.exf b c).2,fun p hp=>nomatch hp⟩
 have G:codeAny (model X.prog X.w) X.A (.compLoop (.ListComp elt [⟨target,iter,ifs,0⟩] scope pos) 0 (.ref it) (.ref (qa s)) (compEnvC scope (Zy X.env scope.names []) H2.objs.size X.env))
   (RR (.ref (qa s)) H2.objs.size) { s3 with heap:=V,toks:=s.toks+([]:List (Str×Value)).length }:=by
  have B:compEnvC scope (Zy X.env scope.names []) H2.objs.size X.env=(Ye X N scope fp (upd H (qa s) (.lst [])) s3).env:=by
   rw[<-f];rfl
  rw[B]
  refine Qge (fun n s'=>∃i P U H',Inv (Ye X N scope fp (upd H (qa s) (.lst [])) s3) [] P H' s'/\tn i s'.heap/\(∀b∈fp,H' b=none)/\W i n P U H') ?_ m0 ⟨0,Qbu cp σ,[],_,J0,ag,fun b c=>(R b c).1,w0⟩
  rintro n s4 ⟨i,P,U,H4,I4,af,ab,w4⟩
  obtain⟨av,hh⟩:=ad i n P U H4 w4
  rcases hh with⟨Y,qn⟩ | ⟨go,ah,N1,N2,ai,al,step⟩
  .refine thn (T.done (Ye X N scope fp (upd H (qa s) (.lst [])) s3) rfl rfl rfl hc i [] s4 P H4 _ I4 (k ab) af Y) fun r s5 a=>?_
   obtain⟨hr,I5⟩:=a
   subst hr
   obtain⟨m,Z,_⟩:=I5.loc
   have e5:H2.objs.size=(Ye X N scope fp (upd H (qa s) (.lst [])) s3).env.locals:=by rw[<-B];rfl
   refine aj _ _ s5 H4 m (Qht I3 R I5) ?_ (by rw[e5];exact Z) qn
   exact I3.fpOk (by rw[f];exact jJ _) (by rw[e5];exact I5.free)
  .refine thn (T.item (Ye X N scope fp (upd H (qa s) (.lst [])) s3) rfl rfl rfl hc i [] s4 P H4 _ I4 (k ab) af go) fun r s5 a=>?_
   obtain⟨u,hr,h5⟩:=a
   subst hr
   refine thn h5 fun _ s6 a=>?_
   obtain⟨x,H6,I6,r6,y6,O,aq⟩:=a
   have ak:=I6.pinned (k aq) (T.obj _ _ O)
   refine thn (hg fp _ _ _ s6 P H6 x u _ ak r6 (step x H6 y6)) fun _ s7 a=>?_
   obtain⟨z,H7,I7,q7⟩:=a
   refine thn (ht fp _ _ _ s7 z H7 _ I7 q7) fun ok s8 a=>?_
   obtain⟨H8,I8,q8⟩:=a
   have F:∀{σ':St} {H':Hp} {s':Shared},Inv (Ye X N scope fp (upd H (qa s) (.lst [])) s3) ([]++Qfs fp s6.heap) σ' H' s'->Inv (Ye X N scope fp (upd H (qa s) (.lst [])) s3) [] σ' H' s'/\tn (i+1) s'.heap/\∀b∈fp,H' b=none:=fun{σ' H' s'} I'=>by
    exists I'.unpinned,T.keep _ _ _ O fun b c o e=>(I'.pin (b,o) (jQd _ (jQd _ (Vn c e)))).1,fun b c=>?_
    obtain⟨o,e,d⟩:=T.obj _ _ O b c
    exact(I'.pin (b,o) (jQd _ (jQd _ (Vn c e)))).2.1
   cases ok with
   |false=>
    rw[Y20 yX]at q8⊢
    obtain⟨m',Z,w8⟩:=al _ _ q8
    obtain⟨b1,b2,b3⟩:=F I8
    exists m',Z,i+1,z,U,H8,b1,b2,b3,w8
   |true=>
    rw[Y22 rfl]at q8⊢
    refine thn (he fp _ _ _ s8 z H8 _ I8 q8) fun y s9 a=>?_
    obtain⟨v,H9,I9,r9,ao,n9⟩:=a
    obtain⟨m',Z,w9⟩:=ai _ _ _ n9
    refine thn (Xx _ s9 z H9 (.ref (qa s)) [v] (.ref (qa s)) [y] (fun _ H'=>H'=upd H9 (qa s) (.lst (U++[v]))) I9 rfl (.cons r9 .nil) ⟨_,U,v,rfl,rfl,ao,ah,rfl⟩) fun _ au a=>?_
    obtain⟨_,ar,ap,_,am⟩:=a
    subst am
    obtain⟨b1,b2,b3⟩:=F ap
    exists m',Z,i+1,z,_,_,b1,b2,b3,w9
 have e3:({ s with heap:=V,toks:=s.toks+([]:List (Str×Value)).length }:Shared)={ s3 with heap:=V,toks:=s.toks+([]:List (Str×Value)).length }:=by rw[<-aa]
 rw[e3]
 exact codeAny_compStart_list G (T.self _ 0 _ _ _ ag G)
theorem Zn{target:Expr}(N:List Str)(cp:List (Option Nat)){wi:TI}{g:TG}(L:X.calm=true)(F:PI X target iter wi)
  (B:∀fp H s,PG (Ye X N scope fp H s) target g) (U:∀fp H s,PF (Ye X N scope fp H s) ifs tt) (G:∀fp H s,PE (Ye X N scope fp H s) elt te)
  (u:qb (scope.kind=.function)) (f:qb ((scope.names.all fun p=>p.2 != .cell)=true)) (a:qb (freeOk X.env.scope scope.names=true)) (j:qb (Wm X scope N cp=true))
  (d:qb ((scope.names.all fun p=>p.2 != .local||scope.names.lookup p.1 == some .local)=true)) (A:autoParam (∀x,foldedSetIterable iter X.env x=pure x) J4._auto_1) :
  PE X (.ListComp elt [⟨target,iter,ifs,0⟩] scope pos) (fun σ H Q=>tLC cp wi g tt te σ H fun D H'=>Q (.ref D) H'):=by
 intro i s σ H Q I h
 rw[eval_ListComp]
 have has:∀n,(n,NameKind.free)∈scope.names->∃c,X.env.cells.lookup n=some c:=fun n v=>I.ok.has n (Jn a n v)
 refine wpAny_comprehension_free (use:=none) rfl A (Kq has) u (fun x W E=>?_) (thn (F i s σ H _ I h) fun xv s1 P=>thn P fun w s2 M=>?_)
 .have:=jXe.mp d x W
  simp only[jZc,bne_iff_ne,beq_iff_eq]at this
  exact this.resolve_left fun z=>z E
 .obtain⟨it,fp,Z,J,H2,e,K,T,r,y,O⟩:=M
  subst e
  refine Qje (N:=N) (cp:=cp) L u f a j B U G K T r y O fun D C S H' m R k Y q=>⟨m,Y,fun h' l=>?_⟩
  exists .ref D,H',R.turned (t':=S.toks) (fun b o V e=>l.extBut b o V e) k.1 k.2.1 k.2.2.2.1 k.2.2.2.2.1 k.2.2.2.2.2,rfl,q
theorem Qui{target:Expr}{spos:Pos}(N:List Str)(cp:List (Option Nat)){wi:TI}{g:TG}(hc:X.calm=true)(hN:X.N.Nodup)(B:X.N[i]?=some x)(L:Loc X.env.scope x)(Z:PI X target iter wi)
  (W:∀fp H s,PG (Ye X N scope fp H s) target g) (ht:∀fp H s,PF (Ye X N scope fp H s) ifs tt) (he:∀fp H s,PE (Ye X N scope fp H s) elt te)
  (K:qb (swapsWith (.ListComp elt [⟨target,iter,ifs,0⟩] scope pos) (some (.Name x px)) spos.line X.env=pure true))
  (O:qb (scope.kind=.function)) (l:qb ((scope.names.all fun p=>p.2 != .cell)=true)) (d:qb (freeOk X.env.scope scope.names=true)) (u:qb (Wm X scope N cp=true))
  (f:qb ((scope.names.all fun p=>p.2 != .local||scope.names.lookup p.1 == some .local)=true)) (V:autoParam (∀x,foldedSetIterable iter X.env x=pure x) J4._auto_1)
  (R:autoParam (X.fn x=true\/qh X x=some .local) J3._auto_1) :
  PS X (.Assign [.Name x px] (.ListComp elt [⟨target,iter,ifs,0⟩] scope pos) spos) (fun D σ H=>tLC cp wi g tt te σ H fun a H'=>D.nx (σ.set i (some (.ref a))) H'):=by
 intro j s σ H D I h
 have has:∀n,(n,NameKind.free)∈scope.names->∃c,X.env.cells.lookup n=some c:=fun n P=>I.ok.has n (Jn d n P)
 rw[exec_Assign_Name_used _ _ _ _ K]
 refine jX (wpAny_standAt (jX ?_))
 show wpAny _ _ (do let _ ← comprehension (.ListComp elt [⟨target,iter,ifs,0⟩] scope pos) scope X.env _ (newList []) false (eval iter X.env) (some (assign (.Name x px) X.env))) _ _ s
 refine jX (Y29 (wpAny_comprehension_free (use:=some (assign (.Name x px) X.env)) (Q:=fun _ F=>SP X j D .next F) rfl V (Kq has) O (fun x L Y=>?_)
  (thn (Z j s σ H _ I h) fun xv s1 h1=>thn h1 fun S s2 h2=>?_)) (fun _ F hq=>kQ (kQ hq)) fun _ _ e=>e)
 .have:=jXe.mp f x L
  simp only[jZc,bne_iff_ne,beq_iff_eq]at this
  exact this.resolve_left fun z=>z Y
 .obtain⟨it,fp,tn,J,H2,e,I2,T,E,U,hW⟩:=h2
  subst e
  refine Qje (N:=N) (cp:=cp) hc O l d u W ht he I2 T E U hW fun M C F H' m I' r hm q=>?_
  show wpAny _ _ (assign (.Name x px) X.env (.ref M)) _ _ _
  refine wpAny_assign_Name (Qfr I' hN B L (v:=.ref M) rfl (fun y A k=>?_) R)
  obtain⟨a,k,ha⟩:=k
  have G:C≠a:=by
   rcases ha with e | e
   .rw[e];exact r.2.1
   .exact fun z=>r.2.2.2.2.1 x a e z.symm
  exists m,hm.sameBut k G,fun h' w=>?_
  exists _,H',A.turned (t':=y.toks) (fun b o hb e=>w.extBut b o hb e) r.1 r.2.1 r.2.2.2.1 r.2.2.2.2.1 r.2.2.2.2.2,q
structure Drw(P:Program)(w:World)(it l:Addr)(st:Nat->Heap->Prop)(src:List Value->Heap->Prop):Prop where
 obj:∀i h,st i h->∃o,h.get? it=some o/\∀v,o.data≠.cell v
 keep:∀i h h',st i h->(∀o,h.get? it=some o->h'.get? it=some o)->st i h'
 srck:∀xs h h',src xs h->(∀o,h.get? l=some o->h'.get? l=some o)->src xs h'
 item:∀(A:Around) (E:VP) (s:Shared) (i:Nat) (xs:List Value) (x:Value) (Q:VP),st i s.heap->src xs s.heap->xs[i]?=some x ->
  (∀h',st (i+1) h'->Heap.SameBut it s.heap h'->Q x { s with heap:=h' })->qe P w A (Builtin.SmallTypes.nextOf (.ref it)) Q E s
 done:∀(A:Around) (E:VP) (s:Shared) (i:Nat) (xs:List Value) (Q:VP),A.handled=none->st i s.heap->src xs s.heap->xs[i]?=none ->
  (∀h' e,Heap.ExtBut it s.heap h'->(∃o,h'.get? e=some o/\o.cls=.type "StopIteration")->E (.ref e) { s with heap:=h' })->qe P w A (Builtin.SmallTypes.nextOf (.ref it)) Q E s
theorem Qqo(g l:Addr):Drw P w g l (fun i h=>h.IsListIter g l i) (fun xs h=>h.IsList l xs.toArray) where
 obj:=fun i h a=>by
  obtain⟨o,e,c,d⟩:=a
  exists o,e,fun v z=>by rw[d]at z;cases z
 keep:=fun i h p a k=>a.at k
 srck:=fun xs h p b k=>b.at k
 item:=fun A E s i xs x Q a b f m=>wpAny_nextOf_list_item a b (by simpa using f) m
 done:=fun A E s i xs Q n a b f j=>wpAny_nextOf_list_end n a b (by simpa using f) j
theorem Qbv{t:Addr}{xs:Array Value}{x:Value}(c:s.heap.IsTupleIter it t i)(j:s.heap.IsTuple t xs)(k:xs[i]?=some x)
  (f:∀h',h'.IsTupleIter it t (i+1)->Heap.SameBut it s.heap h'->Q x { s with heap:=h' }):qe P w A (Builtin.SmallTypes.nextOf (.ref it)) Q E s:=by
 obtain⟨n,b,e,a⟩:=id c
 obtain⟨m,d,_,l,g⟩:=j
 unfold Builtin.SmallTypes.nextOf
 refine jX (wpAny_callSpecial?_slot (name:=Str.ofString "__next__") c.typeIs F.slot_tuple_iterator_next (Y25 F.slot_tuple_iterator_next c.typeIs F.entry_tuple_iterator_next ?_ (F.args_tuple_iterator_next_1 _)))
 show wpAny _ _ (field (.ref it) 0 >>= _) _ _ s
 refine jX (Y23 b a (x:=.ref t) rfl ?_)
 show wpAny _ _ (if (Value.ref t == Value.none)=true then _ else _) _ _ s
 rw[Y20 (show ¬((Value.ref t == Value.none)=true)from yX)]
 show wpAny _ _ (field (.ref it) 1 >>= _) _ _ s
 refine jX (Y23 b a (x:=.int i 0) rfl ?_)
 show wpAny _ _ (seqItems? (.ref t) >>= _) _ _ s
 refine jX (wpAny_seqItems d g ?_)
 simp only[jQc,k]
 refine jX (wpAny_setField b a (by simp) (kQ ⟨x,rfl,kQ (f _ ?_ (Heap.SameBut.update ..))⟩))
 exists _,kJe _ b (Obj.isFreed_of_fields (Obj.data_mapFields a _)),(Obj.cls_mapFields ..).trans e,?_
 rw[Obj.data_mapFields a];simp[rawInt]
theorem Qdd{t:Addr}{xs:Array Value}(f:A.handled=none)(c:s.heap.IsTupleIter it t i)(l:s.heap.IsTuple t xs)(n:xs[i]?=none)
  (g:∀h' e,Heap.ExtBut it s.heap h'->(∃o,h'.get? e=some o/\o.cls=.type "StopIteration")->E (.ref e) { s with heap:=h' }):qe P w A (Builtin.SmallTypes.nextOf (.ref it)) Q E s:=by
 obtain⟨u,d,q,b⟩:=id c
 obtain⟨r,j,_,p,k⟩:=l
 unfold Builtin.SmallTypes.nextOf
 refine jX (wpAny_callSpecial?_slot (name:=Str.ofString "__next__") c.typeIs F.slot_tuple_iterator_next (Y25 F.slot_tuple_iterator_next c.typeIs F.entry_tuple_iterator_next ?_ (F.args_tuple_iterator_next_1 _)))
 show wpAny _ _ (field (.ref it) 0 >>= _) _ _ s
 refine jX (Y23 d b (x:=.ref t) rfl ?_)
 show wpAny _ _ (if (Value.ref t == Value.none)=true then _ else _) _ _ s
 rw[Y20 (show ¬((Value.ref t == Value.none)=true)from yX)]
 show wpAny _ _ (field (.ref it) 1 >>= _) _ _ s
 refine jX (Y23 d b (x:=.int i 0) rfl ?_)
 show wpAny _ _ (seqItems? (.ref t) >>= _) _ _ s
 refine jX (wpAny_seqItems j k ?_)
 simp only[jQc,n]
 refine jX (wpAny_rule (jX (wpAny_setField d b (by simp) ?_)))
 show wpAny _ _ (newExc (.type "StopIteration") [] >>= _) _ _ _
 refine jX ?_
 simp only[newExc,newTuple]
 refine jX (Y26 ?_ (by size_fits))
 refine jX (m:=firstArgMember _ _) (wpAny_of_eq (a:=Value.none) (by first | rfl | (simp only[firstArgMember];rfl)) ?_)
 refine Y26 ?_ (by size_fits)
 simp only[raiseNew]
 refine jX (wpAny_handled ?_)
 first | rw[show A.in1.handled=none from f] | rw[f]
 exact jX (kQ (wpAny_throw (g _ _ (((Heap.SameBut.update ..).extBut.push _).push _) ⟨_,yZ _ rfl,rfl⟩)))
theorem Quj(g l:Addr):Drw P w g l (fun i h=>h.IsTupleIter g l i) (fun xs h=>h.IsTuple l xs.toArray) where
 obj:=fun i h a=>by
  obtain⟨o,e,c,d⟩:=a
  exists o,e,fun v z=>by rw[d]at z;cases z
 keep:=fun i h p a k=>a.at k
 srck:=fun xs h p b k=>b.at k
 item:=fun A E s i xs x Q a b f m=>Qbv a b (by simpa using f) m
 done:=fun A E s i xs Q n a b f j=>Qdd n a b (by simpa using f) j
section
variable{z u o i1 i2 l1 l2:Addr}{st1 st2:Nat->Heap->Prop}{src1 src2:List Value->Heap->Prop}{k1 k2:Nat}{xs ys:List Value}{a b:Value}
theorem Qgh{x y:Value}{Q:Option Value->Shared->Prop}(t:Drw P w i1 l1 st1 src1)(K:Drw P w i2 l2 st2 src2)(D:ZipApart z u o i1 i2 l1 l2)(n:IsZip s.heap z u o .none)(hU:IsPair s.heap u (.ref i1) (.ref i2))(hO:IsPair s.heap o a b)
  (h1:st1 k1 s.heap) (h2:st2 k2 s.heap) (aa:src1 xs s.heap) (X:src2 ys s.heap) (hx:xs[k1]?=some x) (hy:ys[k2]?=some y)
  (hQ:∀h',IsZip h' z u o (rawInt (qa s))->IsPair h' o x y->st1 (k1+1) h'->st2 (k2+1) h'->IsPair h' (qa s) x y->h'.objs.size=(qa s)+1 ->
   (∀c q,c≠z->c≠o->c≠i1->c≠i2->s.heap.get? c=some q->h'.get? c=some q)->Q (some (.ref (qa s))) { s with heap:=h' }):qe P w A (pyNext (.ref z)) Q E s:=by
 have L:s.TypeIs (.ref z) "zip":=⟨_,n,rfl⟩
 unfold pyNext
 refine jX (wpAny_attempt (wpAny_callSpecial?_slot (name:=Str.ofString "__next__") L F.slot_zip_next (Y25 F.slot_zip_next L F.entry_zip_next ?_ (F.args_zip_next_1 _))))
 show wpAny _ _ (field (.ref z) 2 >>= _) _ _ _
 refine jX (Y23 n rfl (x:=.bool false) rfl ?_)
 show wpAny _ _ (field (.ref z) 3 >>= _) _ _ _
 refine jX (Y23 n rfl (x:=.ref u) rfl (jX (wpAny_seqItems hU rfl ?_)))
 show wpAny _ _ (Builtin.SmallTypes.ownedTupleIsFree (.ref z) >>= _) _ _ _
 refine jX ?_
 unfold Builtin.SmallTypes.ownedTupleIsFree
 refine jX (Y23 n rfl (x:=.none) rfl (kQ ?_))
 simp only[if_true]
 refine jX (wpAny_rule (jX (Y23 n rfl (x:=.ref o) rfl (jX (Y24 n (by simp) fun g1 m l=>?_)))))
 replace m:IsZip g1 z u o .ellipsis:=m
 refine jX ?_
 simp only[List.zipIdx_cons,List.zipIdx_nil,List.forIn_cons,List.forIn_nil]
 refine jX (jX (wpAny_onRaise ?_))
 show wpAny _ _ (Builtin.SmallTypes.nextOf (.ref i1) >>= _) _ _ _
 refine jX (t.item _ _ { s with heap:=g1 } k1 xs x _ (t.keep _ _ _ h1 fun q e=>l.extBut _ _ D.i1z e) (t.srck _ _ _ aa fun q e=>l.extBut _ _ D.l1z e) hx fun g2 T p=>kQ ?_)
 have v:IsPair g2 o a b:=p.extBut _ _ D.TOi1 (l.extBut _ _ D.TOz hO)
 refine jX (wpAny_seqItems v rfl (jX (wpAny_updateSeq_pair v fun g3 k r=>?_)))
 replace k:IsPair g3 o x b:=k
 refine jX (wpAny_letGo (kQ ?_))
 refine jX (jX (wpAny_onRaise ?_))
 show wpAny _ _ (Builtin.SmallTypes.nextOf (.ref i2) >>= _) _ _ _
 refine jX (K.item _ _ { s with heap:=g3 } k2 ys y _ (K.keep _ _ _ h2 fun q e=>r.extBut _ _ D.TOi2.symm (p.extBut _ _ D.i12.symm (l.extBut _ _ D.i2z e)))
  (K.srck _ _ _ X fun q e=>r.extBut _ _ D.l2TO (p.extBut _ _ D.l2i1 (l.extBut _ _ D.l2z e))) hy fun g4 W H=>kQ ?_)
 have J:IsPair g4 o x b:=H.extBut _ _ D.TOi2 k
 refine jX (wpAny_seqItems J rfl (jX (wpAny_updateSeq_pair J fun d g C=>?_)))
 replace g:IsPair d o x y:=g
 refine jX (wpAny_letGo (kQ (kQ ?_)))
 refine jX (wpAny_seqItems g rfl (jX (wpAny_newTuple ?_)))
 have G:d.objs.size=(qa s):=by rw[C.1,H.1,r.1,p.1,l.1]
 have B:IsZip d z u o .ellipsis:=C.extBut _ _ D.TOz.symm (H.extBut _ _ D.i2z.symm (r.extBut _ _ D.TOz.symm (p.extBut _ _ D.i1z.symm m)))
 have Y:∀c q,c≠z->c≠o->c≠i1->c≠i2->s.heap.get? c=some q->d.get? c=some q:=fun c q j R c3 V e=>
  C.extBut _ _ R (H.extBut _ _ V (r.extBut _ _ R (p.extBut _ _ c3 (l.extBut _ _ j e))))
 have Z:st1 (k1+1) d:=t.keep _ _ _ T fun q e=>C.extBut _ _ D.TOi1.symm (H.extBut _ _ D.i12 (r.extBut _ _ D.TOi1.symm e))
 have S:st2 (k2+1) d:=K.keep _ _ _ W fun q e=>C.extBut _ _ D.TOi2.symm e
 have N:z<d.objs.size:=zQ B
 show wpAny _ _ (Builtin.SmallTypes.ownedTupleHandOut (.ref z) (.ref d.objs.size) >>= _) _ _ _
 refine jX ?_
 unfold Builtin.SmallTypes.ownedTupleHandOut
 have ab:IsZip (d.push { cls:=.type "tuple",data:=.seq #[x,y] }) z u o .ellipsis:=jK _ B
 refine jX (Y24 ab (by simp) fun g7 i U=>?_)
 replace i:IsZip g7 z u o (rawInt d.objs.size):=i
 refine Y24 i (by simp) fun M f e8=>?_
 replace f:IsZip M z u o (rawInt d.objs.size):=f
 have up:∀c q,c≠z->d.get? c=some q->M.get? c=some q:=fun c q j e=>e8.extBut _ _ j (U.extBut _ _ j (jK _ e))
 have I:IsPair M d.objs.size x y:=e8.extBut _ _ (Nat.ne_of_gt N) (U.extBut _ _ (Nat.ne_of_gt N) (yZ _ rfl))
 have O:M.objs.size=d.objs.size+1:=by rw[e8.1,U.1,jKa]
 rw[G]at f I O
 refine kQ ⟨_,rfl,kQ ?_⟩
 show Q (some (.ref d.objs.size)) _
 rw[G]
 exact hQ M f (up _ _ D.TOz g) (t.keep _ _ _ Z fun q e=>up _ q D.i1z e) (K.keep _ _ _ S fun q e=>up _ q D.i2z e) I O fun c q j R c3 V e=>up c q j (Y c q j R c3 V e)
theorem Qhu{Q:Option Value->Shared->Prop}(V:A.handled=none)(l:Drw P w i1 l1 st1 src1)(L:Drw P w i2 l2 st2 src2)(D:ZipApart z u o i1 i2 l1 l2)(m:IsZip s.heap z u o .none)(hU:IsPair s.heap u (.ref i1) (.ref i2))(hO:IsPair s.heap o a b)
  (U:st1 k1 s.heap) (h2:st2 k2 s.heap) (y:src1 xs s.heap) (J:src2 ys s.heap) (t:xs[k1]?=none\/ys[k2]?=none)
  (hQ:∀h',(∀c q,c≠z->c≠o->c≠i1->c≠i2->s.heap.get? c=some q->h'.get? c=some q)->Q none { s with heap:=h' }):qe P w A (pyNext (.ref z)) Q E s:=by
 have G:s.TypeIs (.ref z) "zip":=⟨_,m,rfl⟩
 unfold pyNext
 have fin:∀(h':Heap) (e:Addr),(∀c q,c≠z->c≠o->c≠i1->c≠i2->s.heap.get? c=some q->h'.get? c=some q)->(∃o,h'.get? e=some o/\o.cls=.type "StopIteration") ->
   qe P w A (isInstance (.ref e) (.type "StopIteration") >>= fun b=>if b=true then pure none else throw (Value.ref e)) Q E { s with heap:=h' }:=fun h' e hk v=>by
  obtain⟨q,hq,hc⟩:=v
  exact jX (wpAny_isInstance (T:="StopIteration") (b:=true) ⟨q,hq,hc⟩ isSubtype_stop (kQ (hQ _ hk)))
 refine jX (wpAny_attempt (wpAny_callSpecial?_slot (name:=Str.ofString "__next__") G F.slot_zip_next (Y25 F.slot_zip_next G F.entry_zip_next ?_ (F.args_zip_next_1 _))))
 show wpAny _ _ (field (.ref z) 2 >>= _) _ _ _
 refine jX (Y23 m rfl (x:=.bool false) rfl ?_)
 show wpAny _ _ (field (.ref z) 3 >>= _) _ _ _
 refine jX (Y23 m rfl (x:=.ref u) rfl (jX (wpAny_seqItems hU rfl ?_)))
 show wpAny _ _ (Builtin.SmallTypes.ownedTupleIsFree (.ref z) >>= _) _ _ _
 refine jX ?_
 unfold Builtin.SmallTypes.ownedTupleIsFree
 refine jX (Y23 m rfl (x:=.none) rfl (kQ ?_))
 simp only[if_true]
 refine jX (wpAny_rule (jX (Y23 m rfl (x:=.ref o) rfl (jX (Y24 m (by simp) fun K f d=>?_)))))
 replace f:IsZip K z u o .ellipsis:=f
 refine jX ?_
 simp only[List.zipIdx_cons,List.zipIdx_nil,List.forIn_cons,List.forIn_nil]
 refine jX (jX (wpAny_onRaise ?_))
 show wpAny _ _ (Builtin.SmallTypes.nextOf (.ref i1) >>= _) _ _ _
 cases O:xs[k1]? with
 |none=>
  refine jX (l.done _ _ { s with heap:=K } k1 xs _ V (l.keep _ _ _ U fun q e=>d.extBut _ _ D.i1z e) (l.srck _ _ _ y fun q e=>d.extBut _ _ D.l1z e) O fun H e g v=>?_)
  obtain⟨I,j,B⟩:=v
  have C:IsZip H z u o .ellipsis:=g _ _ D.i1z.symm f
  have i:e≠z:=fun x=>by subst x;rw[C]at j;cases j;simp at B
  refine Y24 C (by simp) fun M _ k=>?_
  exact fin M e (fun c q r _ N _ x=>k.extBut _ _ r (g _ _ N (d.extBut _ _ r x))) ⟨I,k.extBut _ _ i j,B⟩
 |some x=>
  have hy:ys[k2]?=none:=t.resolve_left fun h=>by rw[O]at h;cases h
  refine jX (l.item _ _ { s with heap:=K } k1 xs x _ (l.keep _ _ _ U fun q e=>d.extBut _ _ D.i1z e) (l.srck _ _ _ y fun q e=>d.extBut _ _ D.l1z e) O fun H W g=>kQ ?_)
  have p:IsPair H o a b:=g.extBut _ _ D.TOi1 (d.extBut _ _ D.TOz hO)
  refine jX (wpAny_seqItems p rfl (jX (wpAny_updateSeq_pair p fun M aa k=>?_)))
  refine jX (wpAny_letGo (kQ ?_))
  refine jX (jX (wpAny_onRaise ?_))
  show wpAny _ _ (Builtin.SmallTypes.nextOf (.ref i2) >>= _) _ _ _
  refine jX (L.done _ _ { s with heap:=M } k2 ys _ V (L.keep _ _ _ h2 fun q e=>k.extBut _ _ D.TOi2.symm (g.extBut _ _ D.i12.symm (d.extBut _ _ D.i2z e)))
   (L.srck _ _ _ J fun q e=>k.extBut _ _ D.l2TO (g.extBut _ _ D.l2i1 (d.extBut _ _ D.l2z e))) hy fun Z e S v=>?_)
  obtain⟨I,j,B⟩:=v
  have n:IsZip Z z u o .ellipsis:=S _ _ D.i2z.symm (k.extBut _ _ D.TOz.symm (g.extBut _ _ D.i1z.symm f))
  have i:e≠z:=fun x=>by subst x;rw[n]at j;cases j;simp at B
  refine Y24 n (by simp) fun g5 _ R=>?_
  exact fin g5 e (fun c q r Y N X x=>R.extBut _ _ r (S _ _ X (k.extBut _ _ Y (g.extBut _ _ N (d.extBut _ _ r x))))) ⟨I,R.extBut _ _ i j,B⟩
end
def Vv(n:String)(l:Addr):Obj:={ cls:=.type n,data:=.fields #[.ref l,.int 0 0] }
structure Itr0(n:String)(l:Addr)(pr:Heap->Prop):Prop where
 go:∀(P:Program) (w:World) (A:Around) (E:VP) (s:Shared) (Q:VP),pr s.heap->Q (.ref (qa s)) { s with heap:=s.heap.push (Vv n l) }->qe P w A (pyIter (.ref l)) Q E s
 push:∀h o,pr h->pr (h.push o)
theorem Qmv(l:Addr)(xs:Array Value):Itr0 "list_iterator" l (fun h=>h.IsList l xs):=⟨fun _ _ _ _ _ _ a h=>wpAny_pyIter_list a h,fun _ _ a=>a.push _⟩
theorem Qqp(l:Addr)(xs:Array Value):Itr0 "tuple_iterator" l (fun h=>h.IsTuple l xs):=⟨fun _ _ _ _ _ _ a h=>wpAny_pyIter_tuple a h,fun _ _ a=>a.push _⟩
def zH1(h:Heap)(n1:String)(l1:Addr):Heap:=h.push (Vv n1 l1)
def zH2(h:Heap)(n1 n2:String)(l1 l2:Addr):Heap:=(zH1 h n1 l1).push (Vv n2 l2)
def zH3(h:Heap)(n1 n2:String)(l1 l2:Addr):Heap:=(zH2 h n1 n2 l1 l2).push { cls:=.type "tuple",data:=.seq #[.ref h.objs.size,.ref (zH1 h n1 l1).objs.size] }
def zH4(h:Heap)(n1 n2:String)(l1 l2:Addr):Heap:=(zH3 h n1 n2 l1 l2).push { cls:=.type "tuple",data:=.seq #[.none,.none] }
def zH5(h:Heap)(n1 n2:String)(l1 l2:Addr):Heap:=(zH4 h n1 n2 l1 l2).push { cls:=.type "zip",data:=.fields #[.none,.bool false,.bool false,.ref (zH2 h n1 n2 l1 l2).objs.size,.ref (zH3 h n1 n2 l1 l2).objs.size] }
theorem Qmw{n1 n2:String}{l1 l2:Addr}{p1 p2:Heap->Prop}(k:Itr0 n1 l1 p1)(i:Itr0 n2 l2 p2) :
  Meets (Builtin.«zip.__new__» ⟨[.type "zip",.ref l1,.ref l2],[]⟩) (fun _ R s=>p1 s.heap/\p2 s.heap/\R (.ok (.ret (.ref (zH4 s.heap n1 n2 l1 l2).objs.size))) { s with heap:=zH5 s.heap n1 n2 l1 l2 }) :=
 .of_wp fun a w A R s h=>by
  obtain⟨b,g,d,c,f⟩:=s
  obtain⟨j,m,h⟩:=h
  have e:=sub_zip
  have l:=fun(A:Around) (E:VP) (Q:VP)=>k.go a w A E ⟨b,g,d,c,f⟩ Q j
  have n:=fun(A:Around) (E:VP) (Q:VP)=>i.go a w A E ⟨b.push (Vv n1 l1),g,d,c,f⟩ Q (i.push _ _ m)
  wp_walk using l _ _ _,n _ _ _
  exists 4,h
def Sq(K:Fg)(m:Bool)(H:Hp)(a:Addr)(xs:List V):Prop:=if m=true then SqL K H a xs else SqT K H a xs
def itN(m:Bool):String:=if m=true then "list_iterator" else "tuple_iterator"
def itSt(m:Bool)(it l:Addr)(i:Nat)(h:Heap):Prop:=if m=true then h.IsListIter it l i else h.IsTupleIter it l i
def Qle(m:Bool)(l:Addr)(xs:List Value)(h:Heap):Prop:=if m=true then h.IsList l xs.toArray else h.IsTuple l xs.toArray
theorem Za(m:Bool)(a l:Addr):Drw P w a l (itSt m a l) (Qle m l):=by
 cases m
 .exact Quj a l
 .exact Qqo a l
theorem Qhv(m:Bool)(l:Addr)(xs:List Value):Itr0 (itN m) l (Qle m l xs):=by
 cases m
 .exact Qqp l xs.toArray
 .exact Qmv l xs.toArray
theorem Qea(m:Bool)(e:h.get? it=some (Vv (itN m) l)):itSt m it l 0 h:=by
 cases m
 .exact⟨_,e,rfl,rfl⟩
 .exact⟨_,e,rfl,rfl⟩
theorem Inv.sq{m:Bool}(I:qI H s)(h:Sq X.K m H a xs):∃its:List Value,Vals xs its/\Qle m a its s.heap/\xs.length<=sizeLine:=by
 cases m
 .obtain⟨its,b,p,c⟩:=I.tuple h
  exists its,b,p,by first | exact c | lia
 .obtain⟨its,b,p,c⟩:=I.list h
  exists its,b,p.isList,by first | exact c | lia
theorem Inv.sq_inj{m:Bool}(I:qI H s)(h:Sq X.K m H a xs)(h':Sq X.K m H a ys):xs=ys:=by
 cases m
 .exact I.tuple_inj h h'
 .exact I.list_inj h h'
theorem Inv.tupNew{ch:List Addr}{T:Addr}(I:qI H s)(j:(qa s)<=T)(r:Vals xs its)(hz:xs.length<=sizeLine)(e:h'.get? T=some { cls:=.type "tuple",data:=.seq its.toArray })
  (f:∀b∈ch,FpOk X pins H b) (k:∀b o,b∉ch->s.heap.get? b=some o->h'.get? b=some o) (A:∀b∈ch,∃o,h'.get? b=some o):qI (upd H T (.tup xs)) { s with heap:=h' }:=by
 have i:H T=none:=I.hok.fresh j
 have l:∀b o,H b=some o->b∉ch:=fun b o e z=>by rw[(f b z).1]at e;cases e
 refine I.step (g':=s.gens) (t':=s.toks) (d':=s.drawn) (ch:=ch) (fun b a=>⟨(f b a).2.2.2.1,(f b a).2.1,(f b a).2.2.2.2.1,(f b a).2.2.2.2.2⟩) (fun b o _ _ hc q _=>k b o hc q) (fun b o _ _ hc q _=>⟨o.slots,k b o hc q⟩) (fun b o _ q n=>?_) (fun b o hc q=>⟨o,k b o hc q⟩)
  (fun b xs q=>?_) (fun b o u q=>?_) (fun b B q=>⟨#[],?_⟩) (fun m y=>?_) (fun b x q=>?_) I.bare
 .rw[Qj (xQ (xV (zQ q) j))];exact n
 .rw[Qj (Qi q i)];exact q
 .rw[Qj (Qi q i)];exact q
 .rw[Qj (Qi q i),Array.append_empty];exact q
 .obtain⟨o,w,p,q,d,r⟩:=y
  exists o,w,p,k _ o (fun z=>(f _ z).2.1 rfl) q,d,r
 .by_cases a:b=T
  .subst a
   rw[upd_same]at q;cases q
   exists hz,its,r,_,e,rfl,4
  .rw[Qj a]at q
   refine(I.hok b x q).stay (fun c v hc r=>k c v ?_ r) (fun c r=>by rw[Qj (Qi r i)];exact r) fun c xs r=>by rw[Qj (Qi r i)];exact r
   rcases hc with rfl | hc
   .exact l _ _ q
   .exact l _ _ hc
def Itz(K:Fg)(m1 m2:Bool)(a b:Addr):It :=
  ⟨fun i H=>∃xs ys x y,Sq K m1 H a xs/\Sq K m2 H b ys/\xs[i]?=some x/\ys[i]?=some y,
   fun i H v H'=>∃T x y,v=.ref T/\H T=none/\H'=upd H T (.tup [x,y])/\(∀xs,Sq K m1 H a xs->xs[i]?=some x)/\∀ys,Sq K m2 H b ys->ys[i]?=some y,
   fun i H=>∃xs ys,Sq K m1 H a xs/\Sq K m2 H b ys/\(xs.length<=i\/ys.length<=i)⟩
def zTn(m1 m2:Bool)(z u o i1 i2 a b:Addr)(i:Nat)(h:Heap):Prop:=IsZip h z u o .none/\IsPair h u (.ref i1) (.ref i2)/\(∃p q,IsPair h o p q)/\itSt m1 i1 a i h/\itSt m2 i2 b i h
theorem X0(n:Nat)(h:n<sizeLine:=by decide):n<sizeLine:=h
theorem Z1(n:Nat)(h:n<=sizeLine:=by decide):n<=sizeLine:=h
theorem Qqq{z u o i1 i2:Addr}(D:ZipApart z u o i1 i2 a b) :
  Turn P w K (.Tuple es kk tp) (Itz K m1 m2 a b) [z,u,o,i1,i2] z (zTn m1 m2 z u o i1 i2 a b) where
 mem:=by simp
 obj:=fun i h l c hc=>by
  obtain⟨h1,B,⟨p,q,h3⟩,h4,Z⟩:=l
  simp only[yK,jXa,or_false]at hc
  rcases hc with rfl | rfl | rfl | rfl | rfl
  .exact⟨_,h1,fun v z=>by cases z⟩
  .exact⟨_,B,fun v z=>by cases z⟩
  .exact⟨_,h3,fun v z=>by cases z⟩
  .exact(Za (P:=P) (w:=w) m1 c a).obj i h h4
  .exact(Za (P:=P) (w:=w) m2 c b).obj i h Z
 keep:=fun i h h' l k=>by
  obtain⟨h1,B,⟨p,q,h3⟩,h4,Z⟩:=l
  exists k z (by simp) _ h1,k u (by simp) _ B,⟨p,q,k o (by simp) _ h3⟩,(Za (P:=P) (w:=w) m1 i1 a).keep i h h' h4 (k i1 (by simp)),(Za (P:=P) (w:=w) m2 i2 b).keep i h h' Z (k i2 (by simp))
 item:=by
  intro X hP hw hK hc i f s V H E I F l W
  subst hP hw hK
  obtain⟨xs,ys,x,y,O,Q,S,hy⟩:=W
  obtain⟨af,r1,U,z1⟩:=I.sq O
  obtain⟨ae,T,Y,z2⟩:=I.sq Q
  obtain⟨v1,e1,ad⟩:=r1.get S
  obtain⟨v2,e2,aa⟩:=T.get hy
  obtain⟨J,A,⟨p,q,L⟩,N,M⟩:=l
  refine Qgh (Za m1 i1 a) (Za m2 i2 b) D J A L N M U Y e1 e2 fun h' a1 a2 a3 a4 a5 a6 a7=>⟨_,rfl,?_⟩
  have j:∀c∈[z,o,i1,i2],FpOk X f H c:=fun c hc=>F c (by simp only[yK,jXa,or_false]at hc⊢;rcases hc with rfl | rfl | rfl | rfl<;>simp)
  have I1:Inv X f V (upd H (qa s) (.tup [x,y])) { s with heap:=h' }:=I.tupNew (ch:=[z,o,i1,i2]) (jJ _) (.cons ad (.cons aa .nil)) (Z1 2) a5 j
   (fun c q hc e=>by simp only[yK,jXa,or_false,not_or]at hc;exact a7 c q hc.1 hc.2.1 hc.2.2.1 hc.2.2.2 e)
   (fun c hc=>by
    simp only[yK,jXa,or_false]at hc
    rcases hc with rfl | rfl | rfl | rfl
    .exact⟨_,a1⟩
    .exact⟨_,a2⟩
    .obtain⟨q,e,_⟩:=(Za (P:=X.prog) (w:=X.w) m1 c a).obj _ _ a3;exists q,e
    .obtain⟨q,e,_⟩:=(Za (P:=X.prog) (w:=X.w) m2 c b).obj _ _ a4;exists q,e)
  refine wpAny_letOwnedTupleGo_zip (s:={ s with heap:=h' }) a1 fun B g1 C=>?_
  obtain⟨f0,f1,f2,f3,f4,f5⟩:=F z (by simp)
  have G:z<(qa s):=zQ J
  have I2:Inv X f V (upd H (qa s) (.tup [x,y])) { s with heap:=B }:=I1.turned (h':=B) (t':=s.toks) (fun c q hc e=>C.extBut c q hc e) (by rw[Qj (xQ G)];exact f0) f1 f3 f4 f5
  have ac:IsPair h' u (.ref i1) (.ref i2):=a7 u _ D.TIz D.TITO D.TIi1 D.TIi2 A
  exists .ref (qa s),_,I2,rfl,⟨_,x,y,rfl,I.hok.fresh (jJ _),rfl,fun ah hq=>by rw[I.sq_inj hq O];exact S,fun ai hq=>by rw[I.sq_inj hq Q];exact hy⟩,?_,fun c hc=>?_
  .exact⟨g1,C.extBut _ _ D.TIz ac,⟨_,_,C.extBut _ _ D.TOz a2⟩,(Za (P:=X.prog) (w:=X.w) m1 i1 a).keep _ _ _ a3 fun q e=>C.extBut _ _ D.i1z e,(Za (P:=X.prog) (w:=X.w) m2 i2 b).keep _ _ _ a4 fun q e=>C.extBut _ _ D.i2z e⟩
  .have ab:c≠(qa s):=by
    have ag:zTn m1 m2 z u o i1 i2 a b i s.heap:=⟨J,A,⟨p,q,L⟩,N,M⟩
    simp only[yK,jXa,or_false]at hc
    rcases hc with rfl | rfl | rfl | rfl | rfl
    .exact xQ G
    .exact xQ (zQ A)
    .exact xQ (zQ L)
    .obtain⟨q,e,_⟩:=(Za (P:=X.prog) (w:=X.w) m1 c a).obj _ _ N;exact xQ (zQ e)
    .obtain⟨q,e,_⟩:=(Za (P:=X.prog) (w:=X.w) m2 c b).obj _ _ M;exact xQ (zQ e)
   rw[Qj ab]
   exact(F c hc).1
 done:=by
  intro X hP hw hK hc i f s V H E I F l W
  subst hP hw hK
  obtain⟨xs,ys,O,Q,S⟩:=W
  obtain⟨af,r1,U,z1⟩:=I.sq O
  obtain⟨ae,T,Y,z2⟩:=I.sq Q
  obtain⟨J,A,⟨p,q,L⟩,N,M⟩:=l
  have l1:=r1.length
  have l2:=T.length
  refine Qhu (I.ok.hd hc) (Za m1 i1 a) (Za m2 i2 b) D J A L N M U Y (by
   rcases S with h | h
   .exact .inl (jYb.mpr Om)
   .exact .inr (jYb.mpr Om)) fun h' k=>⟨rfl,?_⟩
  have j:∀c∈[z,o,i1,i2],FpOk X f H c:=fun c hc=>F c (by simp only[yK,jXa,or_false]at hc⊢;rcases hc with rfl | rfl | rfl | rfl<;>simp)
  have tr:∀c q,H c=some q->c∉[z,o,i1,i2]:=fun c q e y=>by rw[(j c y).1]at e;cases e
  have kk:∀c q,c∉[z,o,i1,i2]->s.heap.get? c=some q->h'.get? c=some q:=fun c q hc e=>by
   simp only[yK,jXa,or_false,not_or]at hc
   exact k c q hc.1 hc.2.1 hc.2.2.1 hc.2.2.2 e
  refine I.step (g':=s.gens) (t':=s.toks) (d':=s.drawn) (ch:=[z,o,i1,i2]) (fun b R=>⟨(j b R).2.2.2.1,(j b R).2.1,(j b R).2.2.2.2.1,(j b R).2.2.2.2.2⟩) (fun b o _ _ hc q _=>kk b o hc q) (fun b o _ _ hc q _=>⟨o.slots,kk b o hc q⟩) (fun b o _ q n=>n) (fun b o hc q=>⟨o,kk b o hc q⟩)
   (fun b xs q=>q) (fun b o u q=>q) (fun b ps q=>⟨#[],by rw[Array.append_empty];exact q⟩) (fun m hm=>?_) (fun b ob q=>?_) I.bare
  .obtain⟨o,es,ep,q,d,r⟩:=hm
   exists o,es,ep,kk _ o (fun z=>(j _ z).2.1 rfl) q,d,r
  .refine(I.hok b ob q).stay (fun c v hc r=>kk c v ?_ r) (fun c r=>r) fun c xs r=>r
   rcases hc with rfl | hc
   .exact tr _ _ q
   .exact tr _ _ hc
 self:=fun _ _ _ _ _ l h=>wpAny_pyIter_zip l.1 h
def iZip(K:Fg)(m1 m2:Bool)(ta:TA):TI:=fun σ H R=>ta σ H fun vs H1=>∃a b,vs=[.ref a,.ref b]/\(∃xs,Sq K m1 H1 a xs)/\(∃ys,Sq K m2 H1 b ys)/\R (Itz K m1 m2 a b) H1
theorem Qmx{xs ys:List Value}(y:Qle m1 a xs s.heap)(v:Qle m2 b ys s.heap)
  (h:∀h',IsZip h' ((qa s)+4) ((qa s)+2) ((qa s)+3) .none->IsPair h' ((qa s)+2) (.ref (qa s)) (.ref ((qa s)+1))->IsPair h' ((qa s)+3) .none .none ->
   itSt m1 (qa s) a 0 h'->itSt m2 ((qa s)+1) b 0 h'->(∀c o,s.heap.get? c=some o->h'.get? c=some o)->Q (.ref ((qa s)+4)) { s with heap:=h' }) :
  qe P w A (call (.type "zip") [.ref a,.ref b]) Q E s:=by
 refine callType_new F.called_zip Dc (F.typeCall_zip_2 _ _) (F.newCall_zip_2 _ _) (fun m=>F.args_object_init_3 m _ _) F.entry_zip_new (Qmw (Qhv m1 a xs) (Qhv m2 b ys)) ⟨y,v,?_⟩
 have j:(zH1 s.heap (itN m1) a).objs.size=(qa s)+1:=jKa ..
 have l:(zH2 s.heap (itN m1) (itN m2) a b).objs.size=(qa s)+2:=by unfold zH2;rw[jKa,j]
 have k:(zH3 s.heap (itN m1) (itN m2) a b).objs.size=(qa s)+3:=by unfold zH3;rw[jKa,l]
 have p:(zH4 s.heap (itN m1) (itN m2) a b).objs.size=(qa s)+4:=by unfold zH4;rw[jKa,k]
 have n:(zH5 s.heap (itN m1) (itN m2) a b).get? (zH4 s.heap (itN m1) (itN m2) a b).objs.size=some { cls:=.type "zip",data:=.fields #[.none,.bool false,.bool false,.ref (zH2 s.heap (itN m1) (itN m2) a b).objs.size,.ref (zH3 s.heap (itN m1) (itN m2) a b).objs.size] }:=yZ _ rfl
 have f:∀c o,(zH4 s.heap (itN m1) (itN m2) a b).get? c=some o->(zH5 s.heap (itN m1) (itN m2) a b).get? c=some o:=fun c o e=>jK _ e
 have i:∀c o,(zH3 s.heap (itN m1) (itN m2) a b).get? c=some o->(zH5 s.heap (itN m1) (itN m2) a b).get? c=some o:=fun c o e=>f c o (jK _ e)
 have g:∀c o,(zH2 s.heap (itN m1) (itN m2) a b).get? c=some o->(zH5 s.heap (itN m1) (itN m2) a b).get? c=some o:=fun c o e=>i c o (jK _ e)
 have d:∀c o,(zH1 s.heap (itN m1) a).get? c=some o->(zH5 s.heap (itN m1) (itN m2) a b).get? c=some o:=fun c o e=>g c o (jK _ e)
 have r:(zH5 s.heap (itN m1) (itN m2) a b).get? (zH3 s.heap (itN m1) (itN m2) a b).objs.size=some { cls:=.type "tuple",data:=.seq #[.none,.none] }:=f _ _ (yZ _ rfl)
 have t:(zH5 s.heap (itN m1) (itN m2) a b).get? (zH2 s.heap (itN m1) (itN m2) a b).objs.size=some { cls:=.type "tuple",data:=.seq #[.ref (qa s),.ref (zH1 s.heap (itN m1) a).objs.size] }:=i _ _ (yZ _ rfl)
 have q:(zH5 s.heap (itN m1) (itN m2) a b).get? (zH1 s.heap (itN m1) a).objs.size=some (Vv (itN m2) b):=g _ _ (yZ _ rfl)
 have u:(zH5 s.heap (itN m1) (itN m2) a b).get? (qa s)=some (Vv (itN m1) a):=d _ _ (yZ _ rfl)
 show _/\_
 rw[l,k,p]at n
 rw[j,l]at t
 rw[k]at r
 rw[j]at q
 rw[p]
 exists ⟨_,n,rfl⟩,h _ n t r (Qea m1 u) (Qea m2 q) fun c o x=>d c o (jK _ x)
theorem Qmy{n l1 l2:Addr}(b:l1<n)(c:l2<n):ZipApart (n+4) (n+2) (n+3) n (n+1) l1 l2:=by
 have a:@LT.lt Nat _ l1 n:=b
 have d:@LT.lt Nat _ l2 n:=c
 constructor<;>(show @Ne Nat _ _)<;>lia
theorem Qeb{m:Bool}{xs:List Value}(e:Qle m a xs h):a<h.objs.size:=by
 cases m
 .obtain⟨o,e,_⟩:=e;exact zQ e
 .obtain⟨o,e,_⟩:=e;exact zQ e
theorem Qmz{a b:Expr}{p:Pos}(m1 m2:Bool)(C:Gl X "zip")(Q:X.mg "zip"=none)(L:PA X [a,b] ta)(B:qb (starEach [a,b] X.env=[(false,eval a X.env),(false,eval b X.env)]))(g:qb (starEach [b] X.env=[(false,eval b X.env)])) :
  PI X (.Tuple es kk tp) (.Call (.Name "zip" p) [a,b] [] pos) (iZip X.K m1 m2 ta):=by
 intro f s n H R I h
 refine Call_ (Qav I C Q (u:=.type "zip") (by rfl) (PyProof.Rows.callWith_type1 (thn (L pos f s n H _ I h) fun V d k=>?_) (by rw[B,g]) (by rw[g];rfl)))
 obtain⟨T,o,j,x,l⟩:=k
 obtain⟨l1,l2,e,⟨Z,l⟩,⟨ys,O⟩,q⟩:=l
 subst e
 obtain⟨W,u2,rfl,G,J⟩:=x.two
 cases G
 cases J
 obtain⟨N,x,m,Y⟩:=j.sq l
 obtain⟨M,S,r,U⟩:=j.sq O
 refine Qmx m r fun v y D z A P F=>?_
 have E:Inv X f n o { d with heap:=v }:=j.kept (t':=d.toks) F
 refine wpAny_pyIter_zip (s:={ d with heap:=v }) y ⟨_,[(qa d)+4,(qa d)+2,(qa d)+3,(qa d),(qa d)+1],_,_,o,rfl,E,Qqq (Qmy (Qeb m) (Qeb r)),⟨y,D,⟨_,_,z⟩,A,P⟩,fun c w=>?_,q⟩
 have i:(qa d)<=c:=by
  simp only[yK,jXa,or_false]at w
  rcases w with rfl | rfl | rfl | rfl | rfl
  .exact kQe _ _
  .exact kQe _ _
  .exact kQe _ _
  .exact jJ _
  .exact kQe _ _
 exact j.fpOk i (j.hok.fresh i)
def isiV(K:Fg)(H:Hp):V->String->Bool->Prop
 |.int _,T,b=>(T="int"/\b=true)\/(T="bool"/\b=false)\/(T="tuple"/\b=false)
 |.bl _,T,b=>(T="int"/\b=true)\/(T="bool"/\b=true)\/(T="tuple"/\b=false)
 |.ref a,T,b=>(∃xs,SqT K H a xs)/\((T="tuple"/\b=true)\/(T="int"/\b=false)\/(T="bool"/\b=false))
 |_,_,_=>False
theorem Qjf:Jv X (.builtin "isinstance") (fun xs H Q=>∃x T b,xs=[x,.ty T]/\isiV X.K H x T b/\Q (.bl b) H):=by
 intro f s p H xs w Q I j h
 obtain⟨x,T,b,rfl,d,q⟩:=h
 obtain⟨u,v,rfl,i,m⟩:=j.two
 cases m
 have fin:∀(g:Nat),EP X f p Q (.bool b) { s with toks:=g }:=fun g=>⟨.bl b,H,I.tok g,rfl,q⟩
 cases x with
 |int n=>
  obtain⟨t,rfl⟩:=i
  rcases d with⟨rfl,rfl⟩ | ⟨rfl,rfl⟩ | ⟨rfl,rfl⟩
  .exact IsiPair.int_int (fin s.toks)
  .exact IsiPair.int_bool (fin _)
  .exact IsiPair.int_tuple (fin _)
 |bl n=>
  cases i
  rcases d with⟨rfl,rfl⟩ | ⟨rfl,rfl⟩ | ⟨rfl,rfl⟩
  .exact IsiPair.bool_int (fin s.toks)
  .exact IsiPair.bool_bool (fin s.toks)
  .exact IsiPair.bool_tuple (fin _)
 |ref a=>
  cases i
  obtain⟨⟨xs,k⟩,d⟩:=d
  obtain⟨l,r,⟨o,e,c,_⟩,_⟩:=I.tuple k
  rcases d with⟨rfl,rfl⟩ | ⟨rfl,rfl⟩ | ⟨rfl,rfl⟩
  .exact IsiPair.tuple_tuple e c (fin s.toks)
  .exact IsiPair.tuple_int e c (fin _)
  .exact IsiPair.tuple_bool e c (fin _)
 |non=>exact d.elim
 |str _=>exact d.elim
 |byt _=>exact d.elim
 |flt _=>exact d.elim
 |ty _=>exact d.elim
theorem Qbw(k:X.calm=true):Jv X (.builtin "sum") (fun xs H Q=>∃(a:Addr) (ns:List Int),xs=[.ref a]/\SqL X.K H a (ns.map V.int)/\Q (.int ns.sum) H):=by
 intro e s v H xs A Q I j h
 obtain⟨a,ns,rfl,o,q⟩:=h
 obtain⟨u,rfl,n⟩:=j.one
 cases n
 obtain⟨b,r,p,x⟩:=I.list o
 have f:IntsAre b.toArray.toList ns:=intsAre_of r
 have c:AllInts b.toArray:=f.allInts
 obtain⟨xs,g⟩:=c.items
 have d:s.heap.IsList a (intItems xs):=g▸p.isList
 refine sum_intListG (I.ok.hd k) d fun z w y i=>?_
 have l:ns=xs.toList.map (·.1):=by
  rw[<-nums_intItems,<-g]
  exact(show numsOf b.toArray.toList=ns from f.numsOf).symm
 have m:preSum (numAt xs) xs.size=ns.sum:=by
  rw[preSum_eq,zX (by simp),l]
 rw[m]
 exists .int ns.sum,H,I.kept i,⟨_,rfl⟩,q
theorem Qna{bs:List Bool}(r:Vals (bs.map V.bl) its){v:Value}(h:its[i]?=some v):∃b,bs[i]?=some b/\v=.bool b:=by
 have d:=r.length
 obtain⟨f,_⟩:=jW.mp h
 rw[jQ]at d
 have c:bs[i]?=some bs[i]:=gE Om
 obtain⟨u,a,e⟩:=r.get (i:=i) (x:=.bl bs[i]) (by rw[jZ,c];rfl)
 rw[h]at a;cases a
 exists _,c,e
theorem Qqr(bs:List Bool):((List.range bs.length).all fun i=>(bs[i]?).getD true)=bs.all id:=by
 rw[jXc]
 simp only[jXe,jXf,id]
 constructor
 .intro h b c
  obtain⟨i,a,e⟩:=kXb c
  have:=h i a
  rw[gE a]at this
  simpa[e]using this
 .intro h i a
  rw[gE a]
  exact h _ (jYa a)
theorem Qqs(bs:List Bool):((List.range bs.length).any fun i=>(bs[i]?).getD false)=bs.any id:=by
 rw[jXc]
 simp only[kQf,jXf,id]
 constructor
 .rintro⟨i,a,h⟩
  rw[gE a]at h
  exists _,jYa a,h
 .rintro⟨b,c,h⟩
  obtain⟨i,a,e⟩:=kXb c
  exists i,a,by rw[gE a];simpa[e]using h
theorem Qnb{o:Obj}(a:∀b x,b∉[h.objs.size]->(h.push o).get? b=some x->h'.get? b=some x):∀b x,h.get? b=some x->h'.get? b=some x:=fun b x e=>
 a b x (fun c=>by rw[kW.mp c]at e;exact jKf _ (zQ e)) (jK _ e)
theorem Qbx(m:X.calm=true):Jv X (.builtin "all") (fun xs H Q=>∃(a:Addr) (bs:List Bool),xs=[.ref a]/\SqL X.K H a (bs.map V.bl)/\Q (.bl (bs.all id)) H):=by
 intro f s w H xs B Q I l h
 obtain⟨a,bs,rfl,t,q⟩:=h
 obtain⟨u,rfl,o⟩:=l.one
 cases o
 obtain⟨c,r,p,y⟩:=I.list t
 have d:a<(qa s):=by obtain⟨_,e,_⟩:=p.isList;exact zQ e
 have g:=r.length
 rw[jQ]at g
 refine call_all_walk (wpAny_pyIter_list p.isList ?_)
 exists (qa s),[(qa s),a],[(qa s)],c.toArray.size,_,_,fun i=>(bs[i]?).getD true,rfl,Walks.list (A:=X.A.in1) (I.ok.hd m) _ a (xQ d) c.toArray,⟨⟨_,yZ _ rfl,rfl,rfl⟩,p.isList.push _⟩,fun i v C F D n j=>?_,fun z x k=>?_
 .obtain⟨b,e,rfl⟩:=Qna r (by simpa using n)
  simp only[e,Option.getD_some]at j
  exact Y31 j
 .rw[kX,<-g,Qqr]
  exists .bl (bs.all id),H,I.kept (Qnb k),rfl,q
theorem Qgi(m:X.calm=true):Jv X (.builtin "any") (fun xs H Q=>∃(a:Addr) (bs:List Bool),xs=[.ref a]/\SqL X.K H a (bs.map V.bl)/\Q (.bl (bs.any id)) H):=by
 intro f s w H xs B Q I l h
 obtain⟨a,bs,rfl,t,q⟩:=h
 obtain⟨u,rfl,o⟩:=l.one
 cases o
 obtain⟨c,r,p,y⟩:=I.list t
 have d:a<(qa s):=by obtain⟨_,e,_⟩:=p.isList;exact zQ e
 have g:=r.length
 rw[jQ]at g
 refine call_any_walk (wpAny_pyIter_list p.isList ?_)
 exists (qa s),[(qa s),a],[(qa s)],c.toArray.size,_,_,fun i=>(bs[i]?).getD false,rfl,Walks.list (A:=X.A.in1) (I.ok.hd m) _ a (xQ d) c.toArray,⟨⟨_,yZ _ rfl,rfl,rfl⟩,p.isList.push _⟩,fun i v C F D n j=>?_,fun z x k=>?_
 .obtain⟨b,e,rfl⟩:=Qna r (by simpa using n)
  simp only[e,Option.getD_some]at j
  exact Y31 j
 .rw[kX,<-g,Qqs]
  exists .bl (bs.any id),H,I.kept (Qnb k),rfl,q
inductive D where
 |non | bl (b:Bool) | int (i:Int) | tup (xs:List D) | lst (xs:List D)
inductive HasD (K:Fg) (H:Hp):V->D->Prop
 |non:HasD K H .non .non
 |bl (b:_):HasD K H (.bl b) (.bl b)
 |int (i:_):HasD K H (.int i) (.int i)
 |tup {a vs xs:_}:SqT K H a vs->vs.length=xs.length->(∀(i:Nat) v x,vs[i]?=some v->xs[i]?=some x->HasD K H v x)->HasD K H (.ref a) (.tup xs)
 |lst {a vs xs:_}:SqL K H a vs->vs.length=xs.length->(∀(i:Nat) v x,vs[i]?=some v->xs[i]?=some x->HasD K H v x)->HasD K H (.ref a) (.lst xs)
inductive Alike:Nat->D->D->Prop
 |non {n:_}:Alike n .non .non
 |bl {n:_} (a b):Alike n (.bl a) (.bl b)
 |int {n:_} (a b):Alike n (.int a) (.int b)
 |tup {n xs ys:_}:(∀(i:Nat) x y,xs[i]?=some x->ys[i]?=some y->Alike n x y)->Alike (n+1) (.tup xs) (.tup ys)
 |lst {n xs ys:_}:(∀(i:Nat) x y,xs[i]?=some x->ys[i]?=some y->Alike n x y)->Alike (n+1) (.lst xs) (.lst ys)
theorem Qec{α:Type}{xs ys:List α}(b:xs.length=ys.length)(h:∀(i:Nat) x y,xs[i]?=some x->ys[i]?=some y->x=y):xs=ys:=by
 refine jYf fun i=>?_
 by_cases a:i<xs.length
 .rw[gE a,gE (by lia:i<ys.length)]
  exact congrArg some (h i _ _ (gE a) (gE Om))
 .rw[wX Om,wX Om]
theorem Inv.noTL(I:qI H s)(h:SqT X.K H a xs)(h':SqL X.K H a ys):False:=by
 obtain⟨_,_,⟨o,e,c,_⟩,_⟩:=I.tuple h
 obtain⟨_,_,p,_⟩:=I.list h'
 obtain⟨f,d,b,_⟩:=p.isList
 rw[e]at d;cases d
 rw[c]at b
 injection b with z
 exact Y21 z Dc
theorem Qjg(I:qI H s){x:V}{d:D}(h:HasD X.K H x d):∀e,HasD X.K H x e->d=e:=by
 induction h with
 |non=>intro e h;cases h;rfl
 |bl b=>intro e h;cases h;rfl
 |int i=>intro e h;cases h;rfl
 |tup hq hl hs ih=>
  intro e h
  cases h with
  |tup hq' hl' hs'=>
   obtain rfl:=I.tuple_inj hq hq'
   refine congrArg D.tup (Qec (hl.symm.trans hl') fun i x y ex c=>?_)
   have a:i<_:=(jW.mp ex).1
   rw[<-hl]at a
   exact ih i _ x (gE a) ex y (hs' i _ y (gE a) c)
  |lst hq' hl' hs'=>exact(I.noTL hq hq').elim
 |lst hq hl hs ih=>
  intro e h
  cases h with
  |lst hq' hl' hs'=>
   obtain rfl:=I.list_inj hq hq'
   refine congrArg D.lst (Qec (hl.symm.trans hl') fun i x y ex c=>?_)
   have a:i<_:=(jW.mp ex).1
   rw[<-hl]at a
   exact ih i _ x (gE a) ex y (hs' i _ y (gE a) c)
  |tup hq' hl' hs'=>exact(I.noTL hq' hq).elim
theorem Wn{e:Nat->Bool}:(List.range n).all e=true↔∀i,i<n->e i=true:=by simp[jXe]
open PySem.SeqAt Classical in
theorem Qtf{d e:D}(h:Alike n d e):∀{A:Around} {x y:V} {u v:Value},A.units+n<cLine->qI H s->RelV x u->RelV y v->HasD X.K H x d->HasD X.K H y e ->
  ∃b:Bool,(b=true↔d=e)/\EqAt A s u v b/\(∀a c,u=.ref a->v=.ref c->RcAt A s u v b/\RcNeAt A s u v (!b)):=by
 induction h with
 |non=>
  intro A x y u v hu I G F C B
  cases C
  cases B
  cases G
  cases F
  exists true,by simp,EqAt.same _,fun a c e _=>nomatch e
 |bl a b=>
  intro A x y u v hu I G F C B
  cases C
  cases B
  cases G
  cases F
  exists a == b,by simp,EqAt.bool_bool a b,fun a c e _=>nomatch e
 |int a b=>
  intro A x y u v hu I G F C B
  cases C
  cases B
  obtain⟨t,rfl⟩:=G
  obtain⟨t',rfl⟩:=F
  exists a == b,by simp,EqAt.int_int a t b t',fun a c e _=>nomatch e
 |@tup m xs ys hs ih=>
  intro A x y u v hu I G F C B
  have L:=C
  have Q:=B
  cases C with
  |@tup p vs _ hq hl hv=>
  cases B with
  |@tup q ws _ hq' hl' hv'=>
  cases G
  cases F
  obtain⟨g,r,pt,_⟩:=I.tuple hq
  obtain⟨f,T,k,_⟩:=I.tuple hq'
  have l1:=r.length
  have l2:=T.length
  have w:∀j (h1:j<g.toArray.size) (W:j<f.toArray.size),EqAt A.in1 s g.toArray[j] f.toArray[j] (decide (xs[j]?=ys[j]?)):=fun j h1 W=>by
   rw[kX]at h1 W
   have Y:j<vs.length:=Om
   have S:j<ws.length:=Om
   have N:j<xs.length:=Om
   have O:j<ys.length:=Om
   obtain⟨u1,U,P⟩:=r.get (gE Y)
   obtain⟨u2,Z,J⟩:=T.get (gE S)
   obtain⟨b,E,eq,_⟩:=ih j _ _ (gE N) (gE O) (A:=A.in1) (by show A.units+1+m<cLine;lia) I P J (hv j _ _ (gE Y) (gE N)) (hv' j _ _ (gE S) (gE O))
   have R:g.toArray[j]=u1:=by rw[gE Om]at U;simpa using U
   have z2:f.toArray[j]=u2:=by rw[gE Om]at Z;simpa using Z
   rw[R,z2]
   have:(decide (xs[j]?=ys[j]?))=b:=by
    rw[jXc,decide_eq_true_iff,E,gE N,gE O]
    exists fun z=>Y5 z,fun z=>congrArg some z
   rw[this]
   exact eq
  have E:((List.range (min g.toArray.size f.toArray.size)).all (fun j=>decide (xs[j]?=ys[j]?))&&g.toArray.size == f.toArray.size)=true↔D.tup xs=D.tup ys:=by
   rw[wZ,Wn,kX,kX,beq_iff_eq]
   constructor
   .rintro⟨R,z2⟩
    refine congrArg D.tup (Qec Om fun i x y ex ey=>?_)
    have hi:=(jW.mp ex).1
    have:=yQ (R i Om)
    rw[ex,ey]at this
    exact Y5 this
   .intro z
    injection z with z
    subst z
    exists fun i _=>yJ rfl,Om
  exists _,E,?_,fun a c _ _=>⟨RcAt.tuples pt k Om w,RcNeAt.tuples pt k Om w⟩
  by_cases l:p=q
  .subst l
   rw[E.mpr (Qjg I L _ Q)]
   exact EqAt.same _
  .exact EqAt.of_refs l (RcAt.tuples pt k Om w)
 |@lst m xs ys hs ih=>
  intro A x y u v hu I G F C B
  have L:=C
  have Q:=B
  cases C with
  |@lst p vs _ hq hl hv=>
  cases B with
  |@lst q ws _ hq' hl' hv'=>
  cases G
  cases F
  obtain⟨g,r,pt,_⟩:=I.list hq
  obtain⟨f,T,k,_⟩:=I.list hq'
  have l1:=r.length
  have l2:=T.length
  have w:∀j (h1:j<g.toArray.size) (W:j<f.toArray.size),EqAt A.in1 s g.toArray[j] f.toArray[j] (decide (xs[j]?=ys[j]?)):=fun j h1 W=>by
   rw[kX]at h1 W
   have Y:j<vs.length:=Om
   have S:j<ws.length:=Om
   have N:j<xs.length:=Om
   have O:j<ys.length:=Om
   obtain⟨u1,U,P⟩:=r.get (gE Y)
   obtain⟨u2,Z,J⟩:=T.get (gE S)
   obtain⟨b,E,eq,_⟩:=ih j _ _ (gE N) (gE O) (A:=A.in1) (by show A.units+1+m<cLine;lia) I P J (hv j _ _ (gE Y) (gE N)) (hv' j _ _ (gE S) (gE O))
   have R:g.toArray[j]=u1:=by rw[gE Om]at U;simpa using U
   have z2:f.toArray[j]=u2:=by rw[gE Om]at Z;simpa using Z
   rw[R,z2]
   have:(decide (xs[j]?=ys[j]?))=b:=by
    rw[jXc,decide_eq_true_iff,E,gE N,gE O]
    exists fun z=>Y5 z,fun z=>congrArg some z
   rw[this]
   exact eq
  by_cases o:g.toArray.size=f.toArray.size
  .have E:((List.range g.toArray.size).all (fun j=>decide (xs[j]?=ys[j]?)))=true↔D.lst xs=D.lst ys:=by
    rw[kX,kX]at o
    rw[Wn,kX]
    constructor
    .intro R
     refine congrArg D.lst (Qec Om fun i x y ex ey=>?_)
     have hi:=(jW.mp ex).1
     have:=yQ (R i Om)
     rw[ex,ey]at this
     exact Y5 this
    .intro z
     injection z with z
     subst z
     exact fun i _=>yJ rfl
   exists _,E,?_,fun a c _ _=>⟨RcAt.lists pt.isList k.isList o Om w,RcNeAt.lists pt.isList k.isList o Om w⟩
   by_cases l:p=q
   .subst l
    rw[E.mpr (Qjg I L _ Q)]
    exact EqAt.same _
   .exact EqAt.of_refs l (RcAt.lists pt.isList k.isList o Om w)
  .have M:(g.toArray.size != f.toArray.size)=true:=by simpa using o
   have E:false=true↔D.lst xs=D.lst ys:=by
    rw[kX,kX]at o
    constructor
    .intro z;cases z
    .intro z
     injection z with z
     subst z
     lia
   exists false,E,?_,fun a c _ _=>⟨RcAt.lists_lengths pt.isList k.isList M Om,RcNeAt.lists_lengths pt.isList k.isList M Om⟩
   by_cases l:p=q
   .subst l
    obtain rfl:=I.list_inj hq hq'
    rw[kX,kX]at o
    lia
   .exact EqAt.of_refs l (RcAt.lists_lengths pt.isList k.isList M Om)
theorem Qnc(o:X.A.units+n<cLine):OpR X (compareOp .Eq) (fun x y H Q=>∃a b d e,x=.ref a/\y=.ref b/\HasD X.K H x d/\HasD X.K H y e/\Alike n d e/\∀c:Bool,(c=true↔d=e)->Q (.bl c) H):=by
 intro f s r H x y v u Q I p m h
 obtain⟨a,b,d,e,rfl,rfl,k,j,i,q⟩:=h
 cases p
 cases m
 obtain⟨c,g,_,l⟩:=Qtf i (A:=X.A) (x:=.ref a) (y:=.ref b) (u:=.ref a) (v:=.ref b) o I rfl rfl k j
 exact(l a b rfl rfl).1 _ _ _ _ ⟨.bl c,H,I,rfl,q c g⟩
theorem Qgj(o:X.A.units+n<cLine):OpR X (compareOp .NotEq) (fun x y H Q=>∃a b d e,x=.ref a/\y=.ref b/\HasD X.K H x d/\HasD X.K H y e/\Alike n d e/\∀c:Bool,(c=true↔d=e)->Q (.bl (!c)) H):=by
 intro f s r H x y v u Q I p m h
 obtain⟨a,b,d,e,rfl,rfl,k,j,i,q⟩:=h
 cases p
 cases m
 obtain⟨c,g,_,l⟩:=Qtf i (A:=X.A) (x:=.ref a) (y:=.ref b) (u:=.ref a) (v:=.ref b) o I rfl rfl k j
 exact(l a b rfl rfl).2 _ _ _ _ ⟨.bl (!c),H,I,rfl,q c g⟩
def Fn(K:Fg)(mg:Z9)(x:Str)(st:Stmt):Prop:=∃f fd,Fun K x x st f fd/\mg x=some (.ref f)
theorem Xs{kV:Value}(X:K.In h)(G:h.Ns mainGlobals mg)
  (a:PySem.W.nsIn K mainGlobals x=some (some (.ref f))) (l:K.lookup f=some ⟨oc,od,.func (PySem.W.fnOf x x (Qw st) (Qv st) (Qf st) .none kV doc pm an cdv ct),osl⟩) (c:PySem.W.codeIn K cdv x=true) (k:PySem.W.keepIn K (.ref f)=true):Fn K mg x st :=
 ⟨f,_,Qjd l c k,PySem.W.mg_of X G a⟩
structure Cal(P:Program)(w:World)(K:Fg)(mg:Z9)(base:Heap)(k:Nat)(x:Str)(ps:List Str)(sp:Sp):Prop where
 ex:∃f fd,FnOk P w K mg base CX0 k f fd ps sp/\mg x=some (.ref f)/\PySem.W.keepIn K (.ref f)=true/\Binds K fd ps []
theorem Cal.mono{k:Nat}{ps:List Str}(C:qC j x ps sp)(h:j<=k):qC k x ps sp:=by
 obtain⟨f,a,F,m,c,b⟩:=C.ex
 exists f,a,F.mono h,m,c,b
theorem Xf{k:Nat}{ps:List Str}(F:Fn K mg x st)(S:FnScope N ps (Qf st))
  (c:autoParam (∀(kV doc pm:Value) (an:Option Addr) (cdv ct:Value) (us:List Value),us.length=ps.length->bindArgs (PySem.W.fnOf x x (Qw st) (Qv st) (Qf st) .none kV doc pm an cdv ct) ⟨us,[]⟩=pure (ps.zip us)) J7._auto_1) (len:autoParam (∀vs H Q E,sp vs H Q E->vs.length=ps.length) J8._auto_1)
  (a:∀(f:Addr) (cdv:Value) (A:Around) (outer:List Env) (s:Shared) (H:Hp) (vs:List V) (Q:VK) (E:XK),Room k (A.deeper (envOfC x (Qf st) (qa s) f cdv))->sp vs H Q E ->
   ∃t,PSs (cxOf CX0 P w K mg base N x (Qf st) f cdv A outer s H E).nox (Qv st) t/\t { nx:=fun _ H'=>Q .non H',rt:=Q } (start N vs) H):qC (k+1) x ps sp:=by
 obtain⟨f,b,F,m⟩:=F
 exists f,b,F.ok S len (a f),m,F.kp,F.binds c
theorem Xc{k:Nat}{ps:List Str}{t:TA}{p:Pos}(C:Cal X.prog X.w X.K X.mg X.base k x ps sp)(d:Room k X.A)(i:PA X (e::es) t)(j:qb (Gl X x))
  (a:qc ((x == ("__debug__":Str))=false)) (g:qb (starEach (e::es) X.env=(false,eval e X.env)::starEach es X.env)) (c:qb ((backTo pos (starEach es X.env)).any (·.1)=false)) :
  PE X (.Call (.Name x p) (e::es) [] pos) (Qud sp [] E0 t):=by
 obtain⟨f,l,F,m,h,b⟩:=C.ex
 exact Que F d j m h b .nil Qmt i a g c
theorem Jh(a:X.mg x=none)(hv:bootBuiltins x=some (.type T))(d:qb (Gl X x))(c:qc (x≠"__name__"))(b:qc ((x == ("__debug__":Str))=false)):PE X (.Name x pos) (tC (.ty T)) :=
 Qua d a hv (v:=.ty T) rfl c b
def gPair(K:Fg)(i j:Nat):TG:=gTup K 2 (Qmb (Qdw i) (Qmb (Qdw j) gNil))
theorem Yb{y:Str}{py:Pos}{k:Nat}(f:X.K=K)(d:X.calm=true)(a:X.N.Nodup)(e:X.N[i]?=some x)(g:X.N[j]?=some y)(c:qh X x=some .local)(b:qh X y=some .local) :
  PG X (.Tuple [.Name x px,.Name y py] k pos) (gPair K i j):=by
 subst f
 exact Qta d (Vm (Xe a e (.inl c) (.inr c)) (Vm (Xe a g (.inl b) (.inr b)) Qhq))
theorem Xa:bootBuiltins "len"=some (.builtin "len"):=Dk
theorem Qnd:bootBuiltins "sum"=some (.builtin "sum"):=Dk
theorem Qne:bootBuiltins "all"=some (.builtin "all"):=Dk
theorem Qtg:bootBuiltins "any"=some (.builtin "any"):=Dk
theorem Qx:bootBuiltins "isinstance"=some (.builtin "isinstance"):=Dk
theorem Qth:bootBuiltins "min"=some (.builtin "min"):=Dk
theorem Qdl:bootBuiltins "max"=some (.builtin "max"):=Dk
theorem Kd:bootBuiltins "sorted"=some (.builtin "sorted"):=Dk
theorem Vc:bootBuiltins "int"=some (.type "int"):=Dk
theorem Qed:bootBuiltins "bool"=some (.type "bool"):=Dk
theorem Xp:bootBuiltins "tuple"=some (.type "tuple"):=Dk
theorem Yu:bootBuiltins "list"=some (.type "list"):=Dk
theorem Quk:bootBuiltins "dict"=some (.type "dict"):=Dk
theorem Qgk:bootBuiltins "enumerate"=some (.type "enumerate"):=Dk
theorem Qb{p:Addr}(h:H p=none)(o:HO):Same H (upd H p o):=fun b u q=>by rw[Qj (Qi q h)];exact q
theorem Same.tup{K:Fg}{H H':Hp}{a:Addr}{xs:List V}(e:Same H H')(h:SqT K H a xs):SqT K H' a xs:=by
 rcases h with(h | ⟨o,h⟩) | h
 .exact .inl (.inl (e _ _ h))
 .exact .inl (.inr ⟨o,e _ _ h⟩)
 .exact .inr h
theorem Qn(h:H a=some (.tup xs)):SqT K H a xs:=.inl (.inl h)
theorem Qg(h:H a=some (.lst xs)):SqL K H a xs:=.inl (.inl h)
theorem Qul{g:TG}{D:Ends}(c:Nat->St->Hp->Prop)(s:c 0 σ H)(n:∀i σ H,i<=min xs.length ys.length->c i σ H->Sq K m1 H a xs/\Sq K m2 H b ys)
  (z:∀i x y σ H T,xs[i]?=some x->ys[i]?=some y->c i σ H->H T=none->g (.ref T) σ (upd H T (.tup [x,y])) fun σ2 H2=>tb { D with nx:=c (i+1),ct:=c (i+1),bk:=D.nx } σ2 H2) (t:∀σ H,c (min xs.length ys.length) σ H->D.nx σ H) :
  ∃W:Nat->Nat->St->Hp->Prop,(∃m,W 0 m σ H)/\∀i m σ H,W i m σ H ->
   ((Itz K m1 m2 a b).stop i H/\D.nx σ H)\/((Itz K m1 m2 a b).go i H/\∃N:St->Hp->Prop,(∀σ' H',N σ' H'->∃m',m'<m/\W (i+1) m' σ' H')/\∀x H',(Itz K m1 m2 a b).yld i H x H'->g x σ H' fun σ2 H2=>tb { D with nx:=N,ct:=N,bk:=D.nx } σ2 H2):=by
 exists fun i m σ H=>m=min xs.length ys.length-i/\i<=min xs.length ys.length/\c i σ H,⟨_,rfl,jZb _,s⟩,?_
 rintro i m σ H ⟨rfl,l,p⟩
 obtain⟨d,f⟩:=n i σ H l p
 by_cases h:i<min xs.length ys.length
 .have r:i<xs.length:=Om
  have k:i<ys.length:=Om
  refine .inr ⟨⟨xs,ys,xs[i],ys[i],d,f,by simp[r],by simp[k]⟩,c (i+1),fun σ' H' q=>⟨min xs.length ys.length-(i+1),Om,rfl,h,q⟩,fun x H' y=>?_⟩
  obtain⟨T,u,v,rfl,w,rfl,o,j⟩:=y
  exact z i u v σ H T (o xs d) (j ys f) p w
 .have e:i=min xs.length ys.length:=Om
  subst e
  exact .inl ⟨⟨xs,ys,d,f,Om⟩,t σ H p⟩
theorem Yg{g:TG}{Q:Addr->Hp->Prop}{D:Addr}(a:Nat->St->List V->Hp->Prop)
  (l:a 0 τ0 [] (upd H D (.lst []))) (d:∀i τ ys H,i<=n->a i τ ys H->H D=some (.lst ys)/\ys.length<sizeLine) (k:∀i τ ys H,i<n->a i τ ys H->J.go i H) (c:∀τ ys H,a n τ ys H->J.stop n H)
  (r:∀i τ ys H x H',i<n->a i τ ys H->J.yld i H x H'->g x τ H' fun σ2 H2=>tt σ2 H2 fun ok H3=>if ok=true then te σ2 H3 fun v H4=>H4 D=some (.lst ys)/\a (i+1) σ2 (ys++[v]) (upd H4 D (.lst (ys++[v])))else a (i+1) σ2 ys H3)
  (o:∀τ ys H,a n τ ys H->Q D H) :
  LcW J D τ0 H g tt te Q:=by
 exists fun i m τ ys H=>m=n-i/\i<=n/\a i τ ys H,⟨n,by simp,jZb _,l⟩,?_
 rintro i m τ ys H ⟨rfl,j,p⟩
 obtain⟨f,h⟩:=d i τ ys H j p
 exists f,?_
 by_cases b:i<n
 .refine .inr ⟨k i τ ys H b p,h,fun τ v H=>a (i+1) τ (ys++[v]) (upd H D (.lst (ys++[v]))),fun τ H=>a (i+1) τ ys H,fun τ v H q=>⟨n-(i+1),Om,rfl,b,q⟩,fun τ H q=>⟨n-(i+1),Om,rfl,b,q⟩,fun x H' y=>r i τ ys H x H' b p y⟩
 .have e:i=n:=Om
  subst e
  exact .inl ⟨c τ ys H p,o τ ys H p⟩
theorem Z5{g:TG}{Q:Addr->Hp->Prop}{D d:Addr}(us:List V)(k:us.length=n)(a:Nat->St->List V->Hp->Prop)(e:a 0 τ0 [] (upd H D (.lst [])))(b:∀i τ ys H,i<=n->a i τ ys H->(H D=some (.lst ys)/\ys.length<sizeLine)/\SqL K H d us)(j:∀i τ ys H x H',i<n->a i τ ys H->(Itl K d).yld i H x H'->g x τ H' fun σ2 H2=>tt σ2 H2 fun ok H3=>if ok=true then te σ2 H3 fun v H4=>H4 D=some (.lst ys)/\a (i+1) σ2 (ys++[v]) (upd H4 D (.lst (ys++[v])))else a (i+1) σ2 ys H3)
  (f:∀τ ys H,a n τ ys H->Q D H) :LcW (Itl K d) D τ0 H g tt te Q:=Yg a e (fun i τ ys H c h=>(b i τ ys H c h).1) (fun i τ ys H c h=>⟨us,_,(b i τ ys H (Nat.le_of_lt c) h).2,gE Om⟩) (fun τ ys H h=>⟨us,(b n τ ys H (Nat.le_refl _) h).2,Om⟩) j f
theorem Vals.of_get:∀{xs:List V} {us:List Value},xs.length=us.length->(∀(i:Nat) x u,xs[i]?=some x->us[i]?=some u->RelV x u)->Vals xs us
 |[],[],_,_=>.nil
 |x::xs,u::us,hl,h=>.cons (h 0 x u rfl rfl) (Vals.of_get (by simpa using hl) fun i y v b a=>h (i+1) y v (by simpa using b) (by simpa using a))
 |[],_::_,hl,_=>by simp at hl
 |_::_,[],hl,_=>by simp at hl
def insV(xs:List V)(k:Nat)(y:V):List V:=xs.take k++y::xs.drop k
theorem Vals.ins(r:Vals xs us)(a:RelV y u)(k:Nat):Vals (insV xs k y) (us.take k++u::us.drop k) :=
 (Vals.take k r).append (.cons a (Vals.drop k r))
theorem Qnf:MtM X "list.insert" (fun x vs H Q=>∃l xs k y,x=.ref l/\vs=[.int k,y]/\H l=some (.lst xs)/\0<=k/\k<=(xs.length:Int)/\xs.length<sizeLine/\Q .non (upd H l (.lst (insV xs k.toNat y)))):=by
 intro d s w H x vs v C Q I j g h
 obtain⟨l,xs,k,y,rfl,rfl,c,A,u,B,q⟩:=h
 cases j
 obtain⟨o,f,rfl,⟨t,rfl⟩,m⟩:=g.two
 obtain⟨z,a,n,r,p,e⟩:=I.lstM c
 have b:¬(!Builtin.List.listFitsIndex k)=true:=by
  have:Builtin.List.listFitsIndex k=true:=by
   unfold Builtin.List.listFitsIndex
   have:(sizeLine:Nat)=16777216:=Dc
   simp only[wZ,decide_eq_true_eq]
   constructor<;>lia
  rw[this];simp
 refine call_meets F.slot_list_insert ⟨_,e,rfl⟩ F.entry_list_insert (F.args_list_insert_3 _ _ _) (PySem.AutoListH.list_insert_list_int_val_1 l a.toArray n k t f b (by rw[kX];lia)) ⟨e,?_⟩
 exists .non,_,I.lset (its':=a.take k.toNat++f::a.drop k.toNat) c e ?_ (Vals.ins r m k.toNat) ?_,rfl,q
 .have i:(if k<0 then(k+((a.toArray.size:Nat):Int)).toNat else min k.toNat a.toArray.size)=k.toNat:=by
   rw[Y20 Om,kX];lia
  simp only[i]
  apply Array.toList_inj.mp
  simp
  rw[zX (by simp)]
 .unfold insV
  rw[jV,zV,yY,wY]
  lia
theorem Qjh{p:Pos}(m:X.mg "range"=none)(k:PA X [e] ta)(l:qb (Gl X "range"))(i:qb (starEach [e] X.env=[(false,eval e X.env)])) :
  PE X (.Call (.Name "range" p) [e] [] pos) (fun σ H Q=>ta σ H fun vs H1=>∃n:Int,vs=[.int n]/\∀r,H1 r=none->Q (.ref r) (upd H1 r (.rng 0 n))):=by
 intro a s σ H Q I h
 refine Call_ (Qav I l m boot_range (PyProof.Rows.callWith_type1 (thn (k pos a s σ H _ I h) fun o f c=>?_) i rfl))
 obtain⟨vs,H1,d,j,g⟩:=c
 obtain⟨n,e,q⟩:=g
 subst e
 obtain⟨u,rfl,t,rfl⟩:=j.one
 refine call_range_1 ⟨.ref (qa f),upd H1 (qa f) (.rng 0 n),d.laid (fun b u e=>jK _ e) (jJ _) ⟨_,_,_,yZ _ rfl⟩,rfl,q _ (d.hok.fresh (jJ _))⟩
theorem Wo(A:X.calm=true):Jv X (.type "list") (fun xs H Q=>∃(r:Addr) (n:Int),xs=[.ref r]/\H r=some (.rng 0 n)/\0<=n/\n<=1000000/\∀l,H l=none->Q (.ref l) (upd H l (.lst ((List.range n.toNat).map fun i=>V.int (i:Nat))))):=by
 intro d s F H xs L Q I z h
 obtain⟨r,n,rfl,m,N,M,q⟩:=h
 obtain⟨u,rfl,C⟩:=z.one
 cases C
 obtain⟨t,u,v,e⟩:=I.hok r _ m
 have J:(sizeLine:Nat)=16777216:=Dc
 refine call_list_range (n:=n.toNat) (I.ok.hd A) e (small_one Om Om Om Om) (by rw[rangeSize_one];split<;>lia) Om fun K G b o y E g=>?_
 exists .ref (qa s),upd H (qa s) (.lst ((List.range n.toNat).map fun i=>V.int (i:Nat))),I.laid y (jJ _) ?_,rfl,q _ (I.hok.fresh (jJ _))
 exists by rw[jQ,jXb];lia,b.toList,o,Vals.of_get (by rw[jQ,jXb,jQe,g.1]) fun i x u f B=>?_,by simpa using E
 obtain⟨p,rfl⟩:=g.2 i u (by simpa using B)
 rw[jZ]at f
 obtain⟨j,D,rfl⟩:=zY.mp f
 have w:=jW.mp D
 obtain⟨k,a⟩:=w
 rw[List.getElem_range]at a
 subst a
 exists p,by simp
theorem Kh(a:X.K=K):IxR X (rIxL K):=by subst a;exact ix_list
theorem Zz(a:X.K=K):IxR X (rIxT K):=by subst a;exact Qm
theorem Qee(a:X.K=K):Jv X (.builtin "len") (fun xs H Q=>∃p ys,xs=[.ref p]/\(SqL K H p ys\/SqT K H p ys)/\Q (.int ys.length) H):=by subst a;exact Ql
theorem Qef(a:X.K=K):OpR X (compareOp .NotIn) (rIn K true):=by subst a;exact Kz
end L2
local macro_rules|`(tactic|exists"z")=>`(tactic|have h:=L2.X0 2000000)
namespace Nb
open PySem L2
structure Mg(mg:Z9):Prop where
 len:mg "len"=none
 min:mg "min"=none
 max:mg "max"=none
 sum:mg "sum"=none
 all:mg "all"=none
 any:mg "any"=none
 abs:mg "abs"=none
 isinstance:mg "isinstance"=none
 sorted:mg "sorted"=none
 range_:mg "range"=none
 zip_:mg "zip"=none
 tuple_:mg "tuple"=none
 list_:mg "list"=none
 int_:mg "int"=none
 bool_:mg "bool"=none
 dict_:mg "dict"=none
 enumerate_:mg "enumerate"=none
 reversed_:mg "reversed"=none
 ValueError_:mg "ValueError"=none
 set_:mg "set"=none
 str_:mg "str"=none
theorem Xv{D:Addr}(b:H D=some (.lst ys))(h:SqT K H a xs):SqT K (upd H D (.lst zs)) a xs:=by
 rcases h with(h | ⟨o,h⟩) | h
 .exact .inl (.inl (by rw[Qj (Kt h b (by intro z;cases z))];exact h))
 .exact .inl (.inr ⟨o,by rw[Qj (Kt h b (by intro z;cases z))];exact h⟩)
 .exact .inr h
def RowAt(K:Fg)(H:Hp)(t:Addr)(r:List Int×Int):Prop:=∃p,SqT K H t [.ref p,.int r.2]/\SqT K H p (r.1.map V.int)
theorem RowAt.same{t:Addr}(e:Same H H')(h:RowAt K H t r):RowAt K H' t r:=by obtain⟨p,b,a⟩:=h;exists p,e.tup b,e.tup a
theorem RowAt.upd{D t:Addr}(a:H D=some (.lst ys))(h:RowAt K H t r):RowAt K (upd H D (.lst zs)) t r:=by obtain⟨p,b,c⟩:=h;exists p,Xv a b,Xv a c
def RowsAre(K:Fg)(H:Hp):List V->List (List Int×Int)->Prop:=Paired fun v r=>∃t,v=.ref t/\RowAt K H t r
theorem RowsAre.imp{rs:List (List Int×Int)}(f:∀t r,RowAt K H t r->RowAt K H' t r)(h:RowsAre K H vs rs):RowsAre K H' vs rs:=by
 induction h with
 |nil=>exact .nil
 |cons r t ih=>obtain⟨a,e,z⟩:=r;exact .cons ⟨a,e,f _ _ z⟩ ih
theorem RowsAre.snoc{K:Fg}{H:Hp}{vs:List V}{rs:List (List Int×Int)}{t:Addr}{r:List Int×Int}(h:RowsAre K H vs rs)(z:RowAt K H t r):RowsAre K H (vs++[.ref t]) (rs++[r]):=by
 induction h with
 |nil=>exact .cons ⟨t,rfl,z⟩ .nil
 |cons q t ih=>exact .cons q ih
theorem RowsAre.get{rs:List (List Int×Int)}(h:RowsAre K H vs rs):∀{i:Nat} {v:V},vs[i]?=some v->∃t r,v=.ref t/\rs[i]?=some r/\RowAt K H t r:=by
 induction h with
 |nil=>intro i v e;simp at e
 |cons q t ih=>
  intro i v e
  cases i with
  |zero=>obtain⟨a,b,z⟩:=q;simp at e;subst e;exists a,_,b,rfl,z
  |succ i=>obtain⟨a,r,b,c,z⟩:=ih (i:=i) (v:=v) (by simpa using e);exists a,r,b,by simpa using c,z
theorem RowsAre.length{rs:List (List Int×Int)}(h:RowsAre K H vs rs):vs.length=rs.length:=Paired.length h
def ProbAt(K:Fg)(H:Hp)(t:Addr)(rs:List (List Int×Int))(cs:List Int):Prop:=∃l c vs,SqT K H t [.ref l,.ref c]/\SqL K H l vs/\RowsAre K H vs rs/\SqT K H c (cs.map V.int)
theorem ProbAt.same{t:Addr}{rs:List (List Int×Int)}(e:Same H H')(h:ProbAt K H t rs cs):ProbAt K H' t rs cs:=by
 obtain⟨l,c,a,d,b,f,g⟩:=h;exists l,c,a,e.tup d,e.seq b,f.imp fun _ _ z=>z.same e,e.tup g
theorem at0{x:V}:atI [x,y] 0=some x:=by rfl
theorem at1{x:V}:atI [x,y] 1=some y:=by rfl
theorem Zh{α:Type}{l:List α}{x:α}(h:l[i]?=some x):l.take (i+1)=l.take i++[x]:=by rw[List.take_succ,h];rfl
theorem Yf(h:(ns.map V.int)[i]?=some v):∃n,ns[i]?=some n/\v=.int n:=by
 rw[jZ]at h
 cases e:ns[i]? with
 |none=>rw[e]at h;cases h
 |some n=>rw[e]at h;exists n,rfl,(Y5 h).symm
def rowD(r:List Int×Int):D:=.tup [.tup (r.1.map .int),.int r.2]
theorem Qum(h:SqT K H a (ns.map V.int)):HasD K H (.ref a) (.tup (ns.map .int)):=by
 refine .tup h (by rw[jQ,jQ]) fun i v x c b=>?_
 obtain⟨n,d,rfl⟩:=Yf c
 rw[jZ,d]at b
 cases b
 exact .int n
theorem pairD{w:V}{d e:D}(h:SqT K H a [v,w])(f:HasD K H v d)(g:HasD K H w e):HasD K H (.ref a) (.tup [d,e]):=by
 refine .tup h rfl fun i v x b c=>?_
 match i with
 |0=>simp at b c;subst b c;exact f
 |1=>simp at b c;subst b c;exact g
 |i+2=>simp at b
theorem RowAt.hasD{t:Addr}(h:RowAt K H t r):HasD K H (.ref t) (rowD r):=by
 obtain⟨p,b,a⟩:=h
 exact pairD b (Qum a) (.int _)
theorem RowsAre.hasD{rs:List (List Int×Int)}(d:SqL K H l vs)(h:RowsAre K H vs rs):HasD K H (.ref l) (.lst (rs.map rowD)):=by
 refine .lst d (by rw[jQ];exact h.length) fun i v x c a=>?_
 obtain⟨t,r,rfl,b,e⟩:=h.get c
 rw[jZ,b]at a
 cases a
 exact e.hasD
theorem Qgl(ns e:List Int):Alike (n+1) (.tup (ns.map .int)) (.tup (e.map .int)):=by
 refine .tup fun i x y d c=>?_
 rw[jZ]at d c
 obtain⟨a,_,rfl⟩:=zY.mp d
 obtain⟨b,_,rfl⟩:=zY.mp c
 exact .int a b
theorem Qng{a b c d:D}(g:Alike n a c)(h:Alike n b d):Alike (n+1) (.tup [a,b]) (.tup [c,d]):=by
 refine .tup fun i x y e f=>?_
 match i with
 |0=>simp at e f;subst e f;exact g
 |1=>simp at e f;subst e f;exact h
 |i+2=>simp at e
theorem Qeg(r a:List Int×Int):Alike (n+2) (rowD r) (rowD a):=Qng (Qgl _ _) (.int _ _)
theorem Qgm(rs c:List (List Int×Int)):Alike (n+3) (.lst (rs.map rowD)) (.lst (c.map rowD)):=by
 refine .lst fun i x y e d=>?_
 rw[jZ]at e d
 obtain⟨a,_,rfl⟩:=zY.mp e
 obtain⟨b,_,rfl⟩:=zY.mp d
 exact Qeg a b
def put(ns:List Int)(t:List Nat):Nat->List Int
 |0=>qg t.length 0
 |m+1=>(put ns t m).set (t.getD m 0) (ns.getD m 0)
theorem Qaj(ns:List Int)(t:List Nat):∀m,(put ns t m).length=t.length
 |0=>zZ
 |m+1=>by show((put ns t m).set _ _).length=_;rw[jQb,Qaj ns t m]
structure IsTurn(n:Nat)(t:List Nat):Prop where
 perm:t.Perm (List.range n)
theorem IsTurn.length(h:IsTurn n t):t.length=n:=by rw[h.perm.length_eq,jXb]
theorem IsTurn.nodup(h:IsTurn n t):t.Nodup:=h.perm.nodup_iff.mpr List.nodup_range
theorem IsTurn.mem(h:IsTurn n t){k:Nat}:k∈t↔k<n:=by rw[h.perm.mem_iff,jXf]
theorem IsTurn.lt(h:IsTurn n t){k:Nat}(e:t[i]?=some k):k<n:=h.mem.mp (kK e)
theorem Qun{l:List Nat}{k:Nat}(h:l[i]?=some k):l.getD i 0=k:=by simp[List.getD,h]
theorem Qqt(h:IsTurn n t)(k:Nat):IsTurn (n+1) (t.take k++n::t.drop k):=by
 refine⟨List.perm_middle.trans ?_⟩
 rw[List.take_append_drop,jZd]
 exact(h.perm.cons n).trans (List.perm_append_singleton n (List.range n)).symm
def tI(t:List Nat):List Int:=t.map (fun k:Nat=>(k:Int))
theorem Vd(t:List Nat):(tI t).length=t.length:=jQ _
theorem tI_get{k:Nat}(h:t[i]?=some k):(tI t)[i]?=some (k:Int):=by unfold tI;rw[jZ,h];rfl
theorem Quo{z:Int}(h:(tI t)[i]?=some z):∃k,t[i]?=some k/\z=(k:Int):=by
 unfold tI at h
 rw[jZ]at h
 obtain⟨k,e,rfl⟩:=zY.mp h
 exists k,e,rfl
theorem rep1(n:Nat)(x:V):(qg n [x]).flatten=qg n x:=by
 induction n with
 |zero=>rfl
 |succ n ih=>rw[jYc,kQb,ih,jYc];rfl
theorem Qby{k:Nat}(h:k<n):ixN n (k:Int)=some k:=by
 unfold ixN
 rw[Y22 Om,Y22 Om]
 simp
theorem Yy{α:Type}{xs:List α}{k:Nat}{x:α}(h:xs[k]?=some x):atI xs (k:Int)=some x:=Zx h
theorem lstD(h:SqL K H a (ns.map V.int)):HasD K H (.ref a) (.lst (ns.map .int)):=by
 refine .lst h (by rw[jQ,jQ]) fun i v x c b=>?_
 obtain⟨n,d,rfl⟩:=Yf c
 rw[jZ,d]at b
 cases b
 exact .int n
theorem Qji(ns e:List Int):Alike (n+1) (.lst (ns.map .int)) (.lst (e.map .int)):=by
 refine .lst fun i x y d c=>?_
 rw[jZ]at d c
 obtain⟨a,_,rfl⟩:=zY.mp d
 obtain⟨b,_,rfl⟩:=zY.mp c
 exact .int a b
theorem Qjj{k:Nat}{x:Int}(b:ns[i]?=some x)(a:t[i]?=some k):put ns t (i+1)=(put ns t i).set k x:=by
 show(put ns t i).set (t.getD i 0) (ns.getD i 0)=_
 rw[Qun a]
 simp[List.getD,b]
inductive Qjk(K:Fg)(vs:List V)(H:Hp)(Q:VK)(E:XK):Prop|mk(r u:Addr)(row:List Int×Int)(n:Nat)(t:List Nat)(_:vs=[.ref r,.ref u])(_:RowAt K H r row)(_:SqL K H u ((tI t).map V.int))(_:IsTurn n t)(_:row.1.length=n)(_:n<=1000)(_:∀(r':Addr) (H':Hp),Same H H'->RowAt K H' r' (put row.1 t n,row.2)->Q (.ref r') H'):Qjk K vs H Q E
end Nb
namespace L2
open PySem PySem.Spec PyProof.Rows
section
variable{κ:Type}[DecidableEq κ]
def valV(kvs:List (κ×V))(k:κ):Option V:=(kvs.find? fun kv=>decide (kv.1=k)).map (·.2)
def putK(kvs:List (κ×V))(k:κ)(v:V):List (κ×V) :=
 if (kvs.any fun kv=>decide (kv.1=k))=true then kvs.map (fun kv=>if kv.1=k then(kv.1,v)else kv)else kvs++[(k,v)]
theorem Ze{p:κ×V}{r:List (κ×V)}{k:κ}(e:p.1=k):valV (p::r) k=some p.2:=by simp[valV,jZe,e]
theorem Zf{p:κ×V}{r:List (κ×V)}{k:κ}(e:¬p.1=k):valV (p::r) k=valV r k:=by simp[valV,jZe,e]
theorem Vo(k:κ):∀kvs:List (κ×V),(kvs.any fun kv=>decide (kv.1=k))=(valV kvs k).isSome
 |[]=>rfl
 |p::r=>by
  rw[kYf]
  by_cases e:p.1=k
  .simp only[Ze e,yJ e,Bool.true_or,Option.isSome_some]
  .rw[Zf e,yV e,Bool.false_or];exact Vo k r
theorem Qjl(k j:κ)(y:V):∀kvs:List (κ×V),valV (kvs.map fun kv=>if kv.1=k then(kv.1,y)else kv) j=(valV kvs j).map fun x=>if j=k then y else x
 |[]=>rfl
 |p::r=>by
  have a:=Qjl k j y r
  rw[xX]
  by_cases h:p.1=k
  .rw[Y22 h]
   by_cases e:p.1=j
   .rw[Ze (p:=(p.1,y)) e,Ze e,kJd,Y22 (e.symm.trans h)]
   .rw[Zf (p:=(p.1,y)) e,Zf e,a]
  .rw[Y20 h]
   by_cases e:p.1=j
   .rw[Ze (p:=p) e,Ze e,kJd,Y20 (fun z=>h (e.trans z))]
   .rw[Zf (p:=p) e,Zf e,a]
theorem valV_snoc(k j:κ)(y:V):∀kvs:List (κ×V),valV kvs k=none->valV (kvs++[(k,y)]) j=if j=k then some y else valV kvs j
 |[],_=>by
  by_cases e:k=j
  .rw[Y22 e.symm];exact Ze (p:=(k,y)) e
  .rw[Y20 (fun z=>e z.symm)];exact Zf (p:=(k,y)) e
 |p::r,hn=>by
  rw[List.cons_append]
  have a:¬p.1=k:=fun z=>by rw[Ze z]at hn;cases hn
  rw[Zf a]at hn
  have b:=valV_snoc k j y r hn
  by_cases e:p.1=j
  .rw[Ze e,Ze e,Y20 (fun z=>a (e.trans z))]
  .rw[Zf e,Zf e,b]
theorem Wp(kvs:List (κ×V))(k j:κ)(y:V):valV (putK kvs k y) j=if j=k then some y else valV kvs j:=by
 unfold putK
 by_cases a:(kvs.any fun b=>decide (b.1=k))=true
 .rw[Y22 a,Qjl]
  rw[Vo]at a
  by_cases e:j=k
  .obtain⟨x,c⟩:=jJa.mp a
   rw[Y22 e,e,c,kJd,Y22 rfl]
  .rw[Y20 e]
   cases valV kvs j with
   |none=>rfl
   |some x=>rw[kJd,Y20 e]
 .rw[Y20 a]
  refine valV_snoc k j y kvs ?_
  rw[Vo]at a
  cases q:valV kvs k with
  |none=>rfl
  |some x=>rw[q]at a;exact(a rfl).elim
theorem Wc(kvs:List (κ×V))(k:κ)(v:V):(putK kvs k v).length<=kvs.length+1:=by
 unfold putK
 split
 .rw[jQ];lia
 .rw[jV,zV,kJc];lia
theorem RelO.isSome_eq{o:Option V}{u:Option Value}(r:RelO o u):o.isSome=u.isSome:=by
 cases o with
 |none=>cases u with
  |none=>rfl
  |some _=>exact(show False from r).elim
 |some _=>cases u with
  |none=>exact(show False from r).elim
  |some _=>rfl
theorem RelO.getD{o:Option V}{u:Option Value}{d:V}{d':Value}(r:RelO o u)(a:RelV d d'):RelV (o.getD d) (u.getD d'):=by
 cases o with
 |none=>cases u with
  |none=>exact a
  |some _=>exact(show False from r).elim
 |some _=>cases u with
  |none=>exact(show False from r).elim
  |some _=>exact r
theorem KV.val{kvs:List (κ×V)}{vs:List (κ×Value)}(r:KV kvs vs)(k:κ):RelO (valV kvs k) (valueAt vs k):=by
 unfold KV at r
 induction r with
 |nil=>exact True.intro
 |@cons p q ps qs h t ih=>
  obtain⟨c,d⟩:=h
  by_cases e:p.1=k
  .have a:q.1=k:=c.symm.trans e
   have b:valueAt (q::qs) k=some q.2:=by simp[valueAt,jZe,a]
   rw[Ze e,b];exact d
  .have a:¬q.1=k:=fun z=>e (c.trans z)
   have b:valueAt (q::qs) k=valueAt qs k:=by simp[valueAt,jZe,a]
   rw[Zf e,b];exact ih
theorem KV.any{kvs:List (κ×V)}{vs:List (κ×Value)}(r:KV kvs vs)(k:κ):(kvs.any fun kv=>decide (kv.1=k))=vs.any fun kv=>decide (kv.1=k):=by
 unfold KV at r
 induction r with
 |nil=>rfl
 |cons h t ih=>rw[kYf,kYf,ih,h.1]
theorem KV.repl{kvs:List (κ×V)}{vs:List (κ×Value)}(r:KV kvs vs)(k:κ)(b:RelV y u) :
  KV (kvs.map fun kv=>if kv.1=k then(kv.1,y)else kv) (vs.map fun kv=>if kv.1=k then(kv.1,u)else kv):=by
 unfold KV at r⊢
 induction r with
 |nil=>exact .nil
 |@cons p q ps qs h t ih=>
  rw[xX,xX]
  refine .cons ?_ ih
  obtain⟨a,c⟩:=h
  by_cases e:p.1=k
  .rw[Y22 e,Y22 (a.symm.trans e)];exists a,b
  .rw[Y20 e,Y20 (fun z=>e (a.trans z))];exists a,c
theorem KV.put{kvs:List (κ×V)}{vs:List (κ×Value)}(r:KV kvs vs)(k:κ)(a:RelV y u):KV (putK kvs k y) (stored vs k u):=by
 unfold putK stored
 rw[r.any k]
 by_cases e:(vs.any fun b=>decide (b.1=k))=true
 .rw[Y22 e,Y22 e];exact r.repl k a
 .rw[Y20 e,Y20 e];exact Paired.snoc r ⟨rfl,a⟩
theorem KV.length{kvs:List (κ×V)}{vs:List (κ×Value)}(r:KV kvs vs):kvs.length=vs.length:=Paired.length r
end
theorem Qup{k:Key}(r:RelV (kV k) u):(Zg P w).is k u=true:=by
 cases k with
 |inl i=>obtain⟨t,e⟩:=(show ∃t,u=Value.int i t from r);subst e;exact Qbo P w i t
 |inr x=>obtain⟨t,e⟩:=(show ∃t,u=Value.str x t from r);subst e;exact Qhn P w x t
theorem Qgn{P:Program}{w:World}:∀{ks:List Key} {us:List Value},Vals (ks.map kV) us->ItemsAre (Zg P w) ks us
 |[],_,r=>by rw[kYa]at r;cases r;exact .nil
 |k::ks,_,r=>by
  rw[xX]at r
  cases r with
  |cons h t=>exact .cons (Qup h) (Qgn t)
abbrev KT(H:Hp):List (List Key×V)->List (List Key×Addr×Value)->Prop:=Paired fun p q=>p.1=q.1/\H q.2.1=some (.tup (p.1.map kV))/\RelV p.2 q.2.2
theorem KT.val{kvs:List (List Key×V)}{xs:List (List Key×Addr×Value)}(r:KT H kvs xs)(k:List Key):RelO (valV kvs k) ((atKey xs k).map (·.2)):=by
 induction r with
 |nil=>exact True.intro
 |@cons p q ps qs h t ih=>
  obtain⟨c,_,d⟩:=h
  by_cases e:p.1=k
  .have a:q.1=k:=c.symm.trans e
   have b:atKey (q::qs) k=some q.2:=by simp[atKey,jZe,a]
   rw[Ze e,b];exact d
  .have a:¬q.1=k:=fun z=>e (c.trans z)
   have b:atKey (q::qs) k=atKey qs k:=by simp[atKey,jZe,a]
   rw[Zf e,b];exact ih
theorem rd_of{u:HO}(ok:HOk P w H h)(e:Rd H a u):ObjOk P w H h a u:=e.ok ok
theorem Qnh{kvs:List (Key×V)}(ok:HOk P w H h)(e:Rd H a (.dK kvs)):kvs.length<=sizeLine/\(a == sysModules)=false/\∃vs,KV kvs vs/\h.DictOf (Zg P w) a vs :=
 show ObjOk P w H h a (.dK kvs)from rd_of ok e
theorem dk_of{kvs:List (Key×V)}(ok:HOk P w H h)(e:H a=some (.dK kvs)):kvs.length<=sizeLine/\(a == sysModules)=false/\∃vs,KV kvs vs/\h.DictOf (Zg P w) a vs:=Qnh ok (.inl e)
theorem Qni{ks:List Key}(ok:HOk P w H h)(e:H a=some (.tup (ks.map kV))):(tupleKind (Zg P w)).is h ks a:=by
 obtain⟨_,b,r,o,f,d,n,c⟩:=(show ObjOk P w H h a (.tup (ks.map kV))from ok a _ e)
 exists o,b.toArray,n,f,d,c,by simpa using Qgn r
theorem Qqu{kvs:List (List Key×V)}(ok:HOk P w H h)(e:Rd H a (.dT kvs)):kvs.length<=sizeLine/\(a == sysModules)=false /\
  ∃xs,KT H kvs xs/\h.DictOfH (tupleKind (Zg P w)) a xs:=by
 obtain⟨z,y,xs,r,o,c,b,g,f,i,j,d⟩:=(show ObjOk P w H h a (.dT kvs)from rd_of ok e)
 exists z,y,xs,r,o,c,b,g,f,i,j,fun x hx=>?_,d
 have all:∀{l:List (List Key×V)} {m:List (List Key×Addr×Value)},KT H l m->∀x∈m,(tupleKind (Zg P w)).is h x.1 x.2.1:=by
  intro l m q
  induction q with
  |nil=>intro x hx;exact nomatch hx
  |@cons p q ps qs hq t ih=>
   intro x hx
   rcases yK.mp hx with e | hx
   .subst e
    exact Qni ok (by rw[<-hq.1];exact hq.2.1)
   .exact ih x hx
 exact all r x hx
def DGet(H:Hp)(a:Addr)(y:V)(r:Option V):Prop :=
 (∃kvs k,Rd H a (.dK kvs)/\y=kV k/\r=valV kvs k)\/∃kvs k b,Rd H a (.dT kvs)/\y=.ref b/\H b=some (.tup (k.map kV))/\r=valV kvs k
theorem DGet.k{kvs:List (Key×V)}{k:Key}(e:H a=some (.dK kvs)):DGet H a (kV k) (valV kvs k):=.inl ⟨kvs,k,.inl e,rfl,rfl⟩
section
variable{o:Option V}
theorem Inv.big(I:qI H s):sysModules<(qa s):=by
 have h:mainGlobals<(qa s):=(I.mod.glob.keeps I.bk).lt
 exact Nat.lt_trans Dc h
theorem Qnj(C:A.units+1<cLine)(I:qI H s)(g:DGet H a y (some v))(q:RelV y u)(h:∀w' s',qI H s'->RelV v w'->Q w' s') :
  qd X A (getItem (.ref a) u) Q E s:=by
 rcases g with⟨m,k,e,n,l⟩ | ⟨m,k,b,e,n,B,l⟩
 .subst n
  obtain⟨z,D,r,d,j⟩:=Qnh I.hok e
  obtain⟨w',i,c⟩:=RelO.some_of (v:=v) (o:=valueAt r k) (by rw[l];exact d.val k)
  exact wpAny_getItem_of (Qup q) j.mapOf i (h w' _ (I.tok _) c)
 .subst n
  cases(show u=Value.ref b from q)
  obtain⟨z,D,x,d,j⟩:=Qqu I.hok e
  obtain⟨w',i,c⟩:=RelO.some_of (v:=v) (o:=(atKey x k).map (·.2)) (by rw[l];exact d.val k)
  obtain⟨p,t,f⟩:=zY.mp i
  refine wpAny_getItem_heap (tupleKind_room_in1 C) (Qni I.hok B) j t ?_
  rw[f]
  exact h w' _ (I.tok _) c
theorem Qhw(I:qI H s)(d:Mut (H a))(i:Heap.SameBut a s.heap h')(f:∃q,h'.get? a=some q)(c:ObjOk X.prog X.w (upd H a ob) h' a ob) :
  qI (upd H a ob) { s with heap:=h',toks:=t' } :=
 I.write (x:=a) (e:=a) d (.inl rfl) (fun b q g z=>(i.2 b g).trans z) f c
theorem dk_new{kvs:List (Key×V)}{vs:List (Key×Value)}(z:kvs.length<=sizeLine)(d:(a == sysModules)=false)(b:KV kvs vs)(c:h'.DictOf (Zg P w) a vs) :
  ObjOk P w H' h' a (.dK kvs):=⟨z,d,vs,b,c⟩
end
def NoSl(i:Expr):Prop:=∀ov iv,subscripted i false ov iv=operate [ov,iv] (getItem ov iv)
theorem Quq{env:Env}{value slice:Expr}{id:String}
  (f:typeLookup (.type T) "__getitem__"=pure (some (.builtin id))) (g:NoSl slice)
  (h:qe prog w A (eval value env) (fun o s₁=>qe prog w A (eval slice env) (fun i s₂=>s₂.TypeIs o T/\qe prog w A (getItem o i) Q E s₂) E s₁) E s) :
  qe prog w A (eval (.Subscript value slice pos) env) Q E s:=by
 refine Subscript_ (Y29 h (fun o s₁ c=>Y29 c (fun i s₂ a=>?_) fun _ _ x=>x) fun _ _ x=>x)
 obtain⟨e,a⟩:=a
 unfold subscriptTail
 refine jX ?_
 rw[getitemInPython_of_ne e.not_modules]
 refine jX (wpAny_specialOf e f ?_)
 have fin:qe prog w A (subscripted slice false o i) (fun r b=>qe prog w A (letTemporaryGo value o r >>= fun _=>pure r) Q E b) E s₂:=by
  rw[g o i]
  exact wpAny_operating (Y29 a (fun r b d=>jX (wpAny_letTemporaryGo (kQ d))) fun _ _ x=>x)
 first
  |exact kQ (jX fin)
  |exact jX (kQ (jX fin))
  |exact jX fin
theorem Qhx{o:Option V}(I:qI H s)(g:DGet H a y o):s.TypeIs (.ref a) "dict":=by
 rcases g with⟨d,k,e,_,_⟩ | ⟨d,k,b,e,_,_,_⟩
 .obtain⟨_,_,h,_,c⟩:=Qnh I.hok e
  exact c.typeIs
 .obtain⟨_,_,f,_,c⟩:=Qqu I.hok e
  exact c.typeIs
theorem Qqv(h:Heap)(a:sysModules<h.objs.size):ObjOk P w H (h.push { cls:=.type "dict",data:=.dict #[] }) h.objs.size (.dK []) :=
 ⟨jZb _,beq_eq_false_iff_ne.mpr (Ne.symm (xQ a)),[],.nil,Heap.DictOf.new h⟩
structure M1(X:Cx)(o:Expr)(m:Str)(apos:Pos)(e:Expr)(cpos:Pos):Prop where
 base:attributeBase o m X.env (eval o X.env)=eval o X.env
 few:((backTo cpos (starEach [e] X.env)).all (fun x=>!x.1)&&(backToKw cpos (keywordEach [] X.env)).all (fun x=>x.1.isSome)
  && decide (([e]:List Expr).length+([]:List Keyword).length+(if ([]:List Keyword).isEmpty then 0 else 1)<30))=true
 line:(apos.endLine == cpos.line)=true
 trees:backTo cpos (starEach [e] X.env)=[(false,eval e X.env)]
structure M2(X:Cx)(o:Expr)(m:Str)(apos:Pos)(e f:Expr)(cpos:Pos):Prop where
 base:attributeBase o m X.env (eval o X.env)=eval o X.env
 few:((backTo cpos (starEach [e,f] X.env)).all (fun x=>!x.1)&&(backToKw cpos (keywordEach [] X.env)).all (fun x=>x.1.isSome)
  && decide (([e,f]:List Expr).length+([]:List Keyword).length+(if ([]:List Keyword).isEmpty then 0 else 1)<30))=true
 line:(apos.endLine == cpos.line)=true
 trees:backTo cpos (starEach [e,f] X.env)=[(false,eval e X.env),(false,eval f X.env)]
def IsD(H:Hp)(a:Addr):Prop:=(∃kvs,Rd H a (.dK kvs))\/∃kvs,Rd H a (.dT kvs)
theorem isD_at(I:qI H s)(d:IsD H a) :
  s.TypeIs (.ref a) "dict"/\(∀b,Value.ref a=.ref b->∃ob,s.heap.get? b=some ob/\ob.dict=none)/\(a == sysModules)=false:=by
 rcases d with⟨h,e⟩ | ⟨h,e⟩
 .obtain⟨_,i,j,_,c⟩:=Qnh I.hok e
  exists c.typeIs,fun b q=>?_,i
  cases q
  obtain⟨ob,_,_,g,f,_⟩:=c
  exists ob,g,f.2.1
 .obtain⟨_,i,k,_,c⟩:=Qqu I.hok e
  exists c.typeIs,fun b q=>?_,i
  cases q
  obtain⟨ob,_,_,g,f,_⟩:=c
  exists ob,g,f.2.1
section
variable{o:Option V}
theorem d_get1(q:A.units+1<cLine)(I:qI H s)(g:DGet H a y o)(m:RelV y u)(h:∀w' s',qI H s'->RelV (o.getD .non) w'->Q w' s') :
  qd X A (call (.builtin "dict.get") [.ref a,u]) Q E s:=by
 rcases g with⟨i,k,e,j,l⟩ | ⟨i,k,b,e,j,p,l⟩
 .subst j
  obtain⟨z,f,r,c,d⟩:=Qnh I.hok e
  refine call_meetsIn PySem.F.slot_dict_get d.typeIs PySem.F.entry_dict_get (PySem.F.args_dict_get_2 _ _) (meets_dict_get (Zg X.prog X.w) a (Qup m) f) ⟨_,d.mapOf,h _ _ (I.tok _) ?_⟩
  rw[l]
  exact(c.val k).getD rfl
 .subst j
  cases(show u=Value.ref b from m)
  obtain⟨z,f,n,c,d⟩:=Qqu I.hok e
  refine call_meetsIn PySem.F.slot_dict_get d.typeIs PySem.F.entry_dict_get (PySem.F.args_dict_get_2 _ _) (meetsH_dict_get (tupleKind (Zg X.prog X.w)) a b f) ⟨tupleKind_room_in1 q,k,n,Qni I.hok p,d,h _ _ (I.tok _) ?_⟩
  rw[l]
  exact(c.val k).getD rfl
end
def tDGet1(td ty:TE):TE:=fun σ H Q=>td σ H fun x H1=>∃a,x=.ref a/\IsD H1 a/\ty σ H1 fun y H2=>∃o,DGet H2 a y o/\Q (o.getD .non) H2
section
variable{o:Expr}{apos cpos:Pos}{td ty:TE}
theorem Qqw(r:X.A.units+1<cLine)(B:PE X o td)(t:PE X e ty)(m:M1 X o "get" apos e cpos):PE X (.Call (.Attribute o "get" apos) [e] [] cpos) (tDGet1 td ty):=by
 intro b s j H Q I h
 refine wpAny_Call_method m.base m.few m.line PySem.F.plainAttrs_dict PySem.F.slot_dict_get PySem.F.type_dict_get (thn (B b s j H _ I h) fun u n f=>?_)
 obtain⟨x,z,i,v,a,ex,d,k⟩:=f
 subst ex
 obtain rfl:u=Value.ref a:=v
 obtain⟨p,l,_⟩:=isD_at i d
 exists p,l,?_
 rw[m.trees]
 refine Calls.callWith_builtin rfl (Calls.evalArgs_plain (Calls.spliced_cons (thn (t b n j z _ i k) fun iv s2 ⟨y,H2,I2,ry,ov,g,q2⟩=>Calls.spliced_nil ?_)))
 exact d_get1 r I2 g ry fun D C q c=>⟨_,H2,q,c,q2⟩
end
end L2
namespace L2
open PySem PySem.Spec PyProof.Rows
theorem Qgo:typeLookup (.type "list") "keys"=pure none:=by rw[typeLookup_type,builtinLookup_eq_fast];kernel_rfl
theorem Qeh{xs:Array Value}{k:Nat}{sl:Array (Option Value)}{Q:Option Value->Shared->Prop}(p:s.heap.get? a=some { cls:=.type "list",dict:=none,data:=.seq xs k,slots:=sl })(q:A.handled=none)
  (h:∀h' tk,(∀b o,s.heap.get? b=some o->h'.get? b=some o)->Q none { s with heap:=h',toks:=tk }):qe prog w A (getAttr? (.ref a) "keys") Q E s:=by
 obtain⟨t,g,d,tk,l⟩:=s
 have m:∀i,(⟨t,g,d,i,l⟩:Shared).TypeIs (.ref a) "list":=fun _=>⟨_,p,rfl⟩
 have C:=sub_AttributeError
 have H:=F.slot_list_getattribute.lookup
 have z:=F.slot_list_getattribute.bind (.ref a)
 have x:=am_list_getattr_none
 have c:(["__module__","__name__","__qualname__","__doc__","__annotations__"]:List Str).contains "keys"=false:=Dk
 unfold getAttr? getAttrBy? getAttrBy
 repeat (any_goals (first | assumption | exact m _ | ((with_reducible show wpAny _ _ (call (Value.builtin "list.__getattribute__") _ _) _ _ _);refine call_meets F.slot_list_getattribute (m _) am_entry_list_getattribute (F.args_list_getattribute_2 _ _) (meets_getattribute_miss_list a xs k sl "keys" _ Qgo c Dk) ⟨p,q,fun h' i e j=>?_⟩) | wp_step))
 have f:=j.of
 obtain⟨⟨B,G,D,v⟩,y,r,n,_,_⟩:=f.there
 simp only at n
 subst n
 have u:∀tk2,(⟨h',g,d,tk2,l⟩:Shared).TypeIs (.ref e) "AttributeError":=fun _=>⟨_,r,rfl⟩
 show wpAny _ _ (getattributeRaised _ _ _ _ _ _ _) _ _ _
 unfold getattributeRaised
 repeat (any_goals (first | assumption | exact u _ | wp_step))
 all_goals exact h _ _ f.keeps
def Qgp:entryFor table "dict.update.loop"=some Builtin.«dict.update.loop»:=entryFor_of_tree (by kernel_rfl)
theorem Wq:plainId "dict.update.loop"=true:=Dk
def PairsAre(K:Fg)(H:Hp):List V->List (Int×V)->Prop:=Paired fun v p=>∃t,v=.ref t/\SqT K H t [.int p.1,p.2]
theorem PairsAre.get(h:PairsAre K H vs ps):∀{i:Nat} {v:V},vs[i]?=some v->∃t p,v=.ref t/\ps[i]?=some p/\SqT K H t [.int p.1,p.2]:=by
 induction h with
 |nil=>intro i v e;simp at e
 |cons q t ih=>
  intro i v e
  cases i with
  |zero=>obtain⟨a,b,z⟩:=q;simp at e;subst e;exists a,_,b,rfl,z
  |succ i=>obtain⟨a,r,b,c,z⟩:=ih (i:=i) (v:=v) (by simpa using e);exists a,r,b,by simpa using c,z
theorem PairsAre.imp(f:∀t xs,SqT K H t xs->SqT K H' t xs)(h:PairsAre K H vs ps):PairsAre K H' vs ps:=by
 induction h with
 |nil=>exact .nil
 |cons r t ih=>obtain⟨a,e,z⟩:=r;exact .cons ⟨a,e,f _ _ z⟩ ih
theorem PairsAre.length(h:PairsAre K H vs ps):vs.length=ps.length:=Paired.length h
def Yv(ps:List (Int×V)):List (Key×V):=ps.foldl (fun d p=>putK d (Sum.inl p.1) p.2) []
theorem Qgq{p:Int×V}(h:ps[i]?=some p):Yv (ps.take (i+1))=putK (Yv (ps.take i)) (Sum.inl p.1) p.2:=by
 unfold Yv
 rw[List.take_succ,h,jZa]
 rfl
theorem Qhy(ps:List (Int×V)):(Yv ps).length<=ps.length:=by
 have:∀(l:List (Int×V)) (d:List (Key×V)),(l.foldl (fun d p=>putK d (Sum.inl p.1) p.2) d).length<=d.length+l.length:=by
  intro l
  induction l with
  |nil=>intro d;simp
  |cons p r ih=>intro d;have:=ih (putK d (Sum.inl p.1) p.2);have a:=Wc d (Sum.inl p.1:Key) p.2;simp only[jKb,zV]at *;lia
 exact jZf (this ps []) (by simp)
theorem Qqx{d:Addr}(hh:A.handled=none)(V:H d=none)(U:SqL X.K H l vs)(M:PairsAre X.K H vs ps)(hz:ps.length<sizeLine)
  (hR:∀s',qI (upd H d (.dK (Yv ps))) s'->R (.ok (.ret .none)) s') :
  ∀(k i:Nat) (s:Shared),ps.length-i=k->i<=ps.length->qI (upd H d (.dK (Yv (ps.take i)))) s->s.heap.IsListIter it l i->FpOk X pins (upd H d (.dK (Yv (ps.take i)))) it ->
   codeAny (model X.prog X.w) A (.builtin "dict.update.loop" ⟨[.ref d,.ref it,rawInt i,.none],[]⟩) R s:=by
 intro k
 induction k with
 |zero=>
  intro i s hk hi I E f
  have N:i=ps.length:=Om
  subst N
  rw[wJ]at I f
  have B:Same H (upd H d (.dK (Yv ps))):=Qb V _
  obtain⟨P,r,p,_⟩:=I.list (B.seq U)
  have lv:=M.length
  have lr:=r.length
  refine codeAny_builtin Qgp ?_
  rw[Around.under_plainId Wq _]
  show wpAny _ A.in1 (pyNext (.ref it) >>= _) _ _ s
  refine jX (wpAny_pyNext_list_end (A:=A.in1) hh E p.isList (by simp;lia) fun J eb=>?_)
  refine jX (kQ (kQ ?_))
  exact hR _ (I.turned (t':=s.toks) (fun b o Q e=>eb b o Q e) f.1 f.2.1 f.2.2.2.1 f.2.2.2.2.1 f.2.2.2.2.2)
 |succ k ih=>
  intro i s hk hi I E f
  have B:Same H (upd H d (.dK (Yv (ps.take i)))):=Qb V _
  obtain⟨P,r,p,_⟩:=I.list (B.seq U)
  have lv:=M.length
  have n:i<vs.length:=Om
  obtain⟨t,c,ev,ep,hT⟩:=M.get (gE n)
  obtain⟨u,hu,ru⟩:=r.get (gE n)
  rw[ev]at ru
  cases ru
  refine codeAny_builtin Qgp ?_
  rw[Around.under_plainId Wq _]
  show wpAny _ A.in1 (pyNext (.ref it) >>= _) _ _ s
  refine jX (wpAny_pyNext_list_item E p.isList (x:=.ref t) (by simpa using hu) fun J F sb=>?_)
  have L:qI (upd H d (.dK (Yv (ps.take i)))) { s with heap:=J }:=I.turned (t':=s.toks) (fun b o Q e=>(sb.2 b Q).trans e) f.1 f.2.1 f.2.2.2.1 f.2.2.2.2.1 f.2.2.2.2.2
  obtain⟨S,r2,⟨ot,Y,ct,nt,dt⟩,_⟩:=L.tuple (B.tup hT)
  obtain⟨u1,u2,rfl,⟨m,rfl⟩,C⟩:=r2.two
  refine jX (Y30 ?_)
  refine jX (wpAny_tryCatch ?_)
  unfold Builtin.Dict.pairItems
  refine jX (wpAny_typeOf (T:="tuple") ⟨ot,Y,ct⟩ ?_)
  rw[Y22 (by simp)]
  refine jX (wpAny_seqItems Y dt (kQ ?_))
  show wpAny _ _ (holding [Value.int c.1 m,u2] (dictSet d (Value.int c.1 m) u2)) _ _ _
  obtain⟨z,D,kv,g,dd⟩:=dk_of L.hok (upd_same (H:=H) (a:=d) (o:=.dK (Yv (ps.take i))))
  have l1:=Qhy (ps.take i)
  rw[yY]at l1
  have O:kv.length<=sizeLine:=by rw[<-g.length];exact z
  refine Y30 (wpAny_dictSet_pairs (hsz:=O) (knd:=Zg X.prog X.w) (k:=(Sum.inl c.1:Key)) (Qbo _ _ _ _) dd fun Z v j=>?_)
  have G:∃q,Z.get? d=some q:=let ⟨q,_,_,hq,_⟩:=v;⟨q,hq⟩
  have l2:=Wc (Yv (ps.take i)) (Sum.inl c.1:Key) c.2
  have W:qI (upd (upd H d (.dK (Yv (ps.take i)))) d (.dK (putK (Yv (ps.take i)) (Sum.inl c.1) c.2))) { s with heap:=Z,toks:=s.toks+1 } :=
   Qhw (s:={ s with heap:=J }) L (by rw[upd_same];exact True.intro) j G (dk_new Om D (g.put _ C) v)
  rw[upd_upd,<-Qgq ep]at W
  have y:it≠d:=fun e=>by have:=f.1;rw[e,upd_same]at this;cases this
  refine kQ ⟨plainId_quiet Wq _,?_⟩
  have N:rawInt ((i:Int)+1)=rawInt ((i+1:Nat):Int):=by push_cast;rfl
  rw[N]
  refine ih (i+1) _ Om Om W (F.at fun o e=>j.extBut _ _ y e) ⟨?_,f.2⟩
  have:=f.1
  rw[Qj y]at this⊢
  exact this
theorem Qgr(D:X.calm=true):Jv X (.type "dict") (fun xs H Q=>∃(l:Addr) (vs:List V) (ps:List (Int×V)),xs=[.ref l]/\SqL X.K H l vs/\PairsAre X.K H vs ps/\ps.length<sizeLine/\∀d,H d=none->Q (.ref d) (upd H d (.dK (Yv ps)))):=by
 intro pins s σ H xs us Q I S h
 obtain⟨l,vs,ps,rfl,m,U,R,q⟩:=h
 obtain⟨u,rfl,Y⟩:=S.one
 cases Y
 refine callType_codes (Q₁:=fun g G=>g=.ref (qa s)/\G={ s with heap:=s.heap.push { cls:=.type "dict",data:=.dict #[] } }) F.kt_called_dict (F.kt_typeCall_dict_1 _) F.entry_dict_init (kt_code_dict_new _ ⟨rfl,rfl⟩) ?_
 rintro g G ⟨rfl,rfl⟩
 have p:H (qa s)=none:=I.hok.fresh (jJ _)
 have v:qI (upd H (qa s) (.dK [])) { s with heap:=s.heap.push { cls:=.type "dict",data:=.dict #[] } }:=I.laid (t':=s.toks) (fun _ _ q=>jK _ q) (jJ _) (Qqv s.heap I.big)
 have B:Same H (upd H (qa s) (.dK [])):=Qb p _
 obtain⟨z,J,kv,L,C⟩:=dk_of v.hok (upd_same (H:=H) (a:=(qa s)) (o:=.dK []))
 exists C.typeIs,F.args_dict_init_2 _ _,?_
 unfold Builtin.«dict.__init__»
 refine jX ?_
 unfold Builtin.Dict.selfAndRest
 refine jX (wpAny_notOrdered_dict C.typeIs ?_)
 show wpAny _ _ (pure ((qa s),[Value.ref l])) _ _ _
 refine kQ ?_
 show wpAny _ _ (Builtin.Dict.updateFrom "dict.__init__" (qa s) (.ref l) [] .none) _ _ _
 unfold Builtin.Dict.updateFrom
 obtain⟨Z,r,⟨o,n,e,c,E,y⟩,_⟩:=v.list (B.seq m)
 obtain⟨cls,O,aa,M⟩:=o
 simp only at c E y
 subst c E y
 refine jX (wpAny_typeOf (T:="list") ⟨_,e,rfl⟩ ?_)
 rw[Y22 Dc]
 refine jX (Qeh (s:={ s with heap:=s.heap.push { cls:=.type "dict",data:=.dict #[] } }) e (by exact I.ok.hd D) fun j f w=>?_)
 have i:qI (upd H (qa s) (.dK [])) { s with heap:=j,toks:=f }:=v.kept w
 rw[Y22 (by rfl)]
 refine jX (wpAny_rule (jX ?_))
 obtain⟨x,r2,P,_⟩:=i.list (B.seq m)
 refine wpAny_pyIter_list (s:={ s with heap:=j,toks:=f }) P.isList ?_
 refine kQ ⟨plainId_quiet Wq _,?_⟩
 have N:qI (upd H (qa s) (.dK [])) { s with heap:=j.push { cls:=.type "list_iterator",data:=.fields #[.ref l,.int 0 0] },toks:=f }:=i.kept (t':=f) fun b o e=>jK _ e
 have k:=i.hok.fresh (a:=j.objs.size) (jJ _)
 refine Qqx (X:=X) (pins:=pins) (σ:=σ) (H:=H) (vs:=vs) (ps:=ps) (A:=X.A.in1) (by exact I.ok.hd D) p m U R (fun s' W=>⟨rfl,.ref (qa s),_,W,rfl,q _ p⟩) ps.length 0 _ Om (jZb _) N ⟨_,yZ _ rfl,rfl,rfl⟩ (i.fpOk (jJ _) k)
section
variable{e:Addr}{st:Nat->Heap->Prop}{src:List Value->Heap->Prop}{xs:List Value}{old:Value}
theorem Qei{x:Value}{Q:Option Value->Shared->Prop}(Y:Drw P w it l st src)(R:IsEnum s.heap e it i old)(hI:st i s.heap)(hl:src xs s.heap)(hx:xs[i]?=some x)(j:e≠it)
  (hQ:∀h',IsEnumOut h' e it ((i:Int)+1) x (qa s)->st (i+1) h'->h'.get? (qa s)=some { cls:=.type "tuple",data:=.seq #[.int i s.toks,x] } ->
   (∀b o,b≠e->b≠it->s.heap.get? b=some o->h'.get? b=some o)->Q (some (.ref (qa s))) { s with heap:=h',toks:=s.toks+1 }):qe P w A (pyNext (.ref e)) Q E s:=by
 have L:s.TypeIs (.ref e) "enumerate":=⟨_,R,rfl⟩
 unfold pyNext
 refine jX (wpAny_attempt (wpAny_callSpecial?_slot (name:=Str.ofString "__next__") L F.slot_enumerate_next (Y25 F.slot_enumerate_next L F.entry_enumerate_next ?_ (F.args_enumerate_next_1 _))))
 obtain⟨p,g,d,a,f⟩:=s
 show wpAny _ _ (field (.ref e) 2 >>= _) _ _ _
 refine jX (Y23 R rfl (x:=.ref it) rfl ?_)
 refine jX (Y.item _ _ ⟨p,g,d,a,f⟩ i xs x _ hI hl hx fun C M H=>?_)
 replace H:Heap.SameBut it p C:=H
 have k:IsEnum C e it i old:=(H.2 e j).trans R
 show wpAny _ _ (field (.ref e) 3 >>= _) _ _ ⟨C,g,d,a,f⟩
 refine jX (Y23 k rfl (x:=rawInt i) rfl ?_)
 show wpAny _ _ (field (.ref e) 4 >>= _) _ _ ⟨C,g,d,a,f⟩
 refine jX (Y23 k rfl (x:=.none) rfl ?_)
 show wpAny _ _ (mkInt i >>= _) _ _ ⟨C,g,d,a,f⟩
 refine jX (wpAny_mkInt ?_)
 show wpAny _ _ (setField (.ref e) 3 (rawInt ((i:Int)+1)) >>= _) _ _ ⟨C,g,d,a+1,f⟩
 refine jX (Y24 k (by simp) fun N t I=>?_)
 replace I:Heap.SameBut e C N:=I
 replace t:IsEnum N e it ((i:Int)+1) old:=t
 show wpAny _ _ (setField (.ref e) 4 .none >>= _) _ _ ⟨N,g,d,a+1,f⟩
 refine jX (Y24 t (by simp) fun J n K=>?_)
 replace K:Heap.SameBut e N J:=K
 replace n:IsEnum J e it ((i:Int)+1) old:=n
 show wpAny _ _ (newTuple [.int i a,x] >>= _) _ _ ⟨J,g,d,a+1,f⟩
 refine jX (wpAny_newTuple ?_)
 have m:IsEnum (J.push { cls:=.type "tuple",data:=.seq #[.int i a,x] }) e it ((i:Int)+1) old:=jK _ n
 generalize r:J.push { cls:=.type "tuple",data:=.seq #[.int i a,x] }=g4 at m
 have y:J.objs.size=p.objs.size:=by rw[K.1,I.1,H.1]
 have aa:e<p.objs.size:=zQ R
 have W:g4.get? p.objs.size=some { cls:=.type "tuple",data:=.seq #[.int i a,x] }:=by rw[<-r,<-y];exact yZ _ rfl
 have Z:∀b o,b≠e->b≠it->p.get? b=some o->g4.get? b=some o:=fun b o c B G=>by
  rw[<-r];exact jK _ (K.extBut b o c (I.extBut b o c (H.extBut b o B G)))
 have T:st (i+1) g4:=Y.keep _ _ _ M fun q z=>by rw[<-r];exact jK _ (K.extBut _ _ j.symm (I.extBut _ _ j.symm z))
 show wpAny _ _ (Builtin.SmallTypes.ownedTupleIsFree (.ref e) >>= _) _ _ ⟨g4,g,d,a+1,f⟩
 rw[y]
 clear r n K t I k H M y
 refine jX ?_
 unfold Builtin.SmallTypes.ownedTupleIsFree
 refine jX (Y23 m rfl (x:=.none) rfl (kQ ?_))
 simp only[if_true]
 refine jX (wpAny_rule (jX (Y23 m rfl (x:=old) rfl (jX (Y24 m (by simp) fun O u V=>?_)))))
 replace V:Heap.SameBut e g4 O:=V
 replace u:IsEnum O e it ((i:Int)+1) x:=u
 show wpAny _ _ (Builtin.SmallTypes.ownedTupleHandOut (.ref e) (.ref p.objs.size) >>= _) _ _ ⟨O,g,d,a+1,f⟩
 refine jX ?_
 unfold Builtin.SmallTypes.ownedTupleHandOut
 refine jX (Y24 u (by simp) fun X v e6=>?_)
 replace e6:Heap.SameBut e O X:=e6
 replace v:IsEnumOut X e it ((i:Int)+1) x p.objs.size:=v
 refine Y24 v (by simp) fun S D U=>?_
 replace U:Heap.SameBut e X S:=U
 replace D:IsEnumOut S e it ((i:Int)+1) x p.objs.size:=D
 have up:∀b o,b≠e->g4.get? b=some o->S.get? b=some o:=fun b o G z=>U.extBut b o G (e6.extBut b o G (V.extBut b o G z))
 refine jX (wpAny_letGo (kQ ⟨_,rfl,kQ (hQ S D ?_ ?_ ?_)⟩))
 .exact Y.keep _ _ _ T fun q z=>up _ _ j.symm z
 .exact up _ _ (Nat.ne_of_gt aa) W
 .exact fun b o c B G=>up b o c (Z b o c B G)
theorem Qgs{Q:Option Value->Shared->Prop}(p:A.handled=none)(m:Drw P w it l st src)(d:IsEnum s.heap e it i old)(k:st i s.heap)(g:src xs s.heap)(q:xs[i]?=none)
  (n:∀h',Heap.ExtBut it s.heap h'->Q none { s with heap:=h' }):qe P w A (pyNext (.ref e)) Q E s:=by
 have a:s.TypeIs (.ref e) "enumerate":=⟨_,d,rfl⟩
 unfold pyNext
 refine jX (wpAny_attempt (wpAny_callSpecial?_slot (name:=Str.ofString "__next__") a F.slot_enumerate_next (Y25 F.slot_enumerate_next a F.entry_enumerate_next ?_ (F.args_enumerate_next_1 _))))
 show wpAny _ _ (field (.ref e) 2 >>= _) _ _ _
 refine jX (Y23 d rfl (x:=.ref it) rfl ?_)
 refine jX (m.done _ _ s i xs _ p k g q fun h' x j c=>?_)
 obtain⟨o,r,f⟩:=c
 refine jX (wpAny_isInstance (T:="StopIteration") (b:=true) ⟨o,r,f⟩ isSubtype_stop (kQ (n _ j)))
end
theorem Qlf{n:String}{p:Heap->Prop}(I:Itr0 n l p) :
  Meets (Builtin.«enumerate.__new__» ⟨[.type "enumerate",.ref l],[]⟩) (fun _ R s=>p s.heap/\R (.ok (.ret (.ref (s.heap.push (Vv n l)).objs.size))) { s with heap:=(s.heap.push (Vv n l)).push { cls:=.type "enumerate",data:=.fields #[.none,.bool false,.ref (qa s),rawInt 0,.none,.none] } }) :=
 .of_wp fun a w A R s h=>by
  obtain⟨f,g,d,i,j⟩:=s
  obtain⟨q,h⟩:=h
  have e:=sub_enumerate
  have b:=fun(A:Around) (E:VP) (Q:VP)=>I.go a w A E ⟨f,g,d,i,j⟩ Q q
  wp_walk
  refine wpAny_stack_any fun k=>kQ ?_
  split
  .rename_i c _ _ _ _ _
   cases(c == Value.type "enumerate")
   .wp_walk using b _ _ _
    exists 4,h
   .wp_walk using b _ _ _
    exists 4,h
  .wp_walk using b _ _ _
   exists 4,h
def Ite(K:Fg)(m:Bool)(a:Addr):It :=
  ⟨fun i H=>∃xs x,Sq K m H a xs/\xs[i]?=some x,
   fun i H v H'=>∃T x,v=.ref T/\H T=none/\H'=upd H T (.tup [.int (i:Nat),x])/\(∀xs,Sq K m H a xs->xs[i]?=some x),
   fun i H=>∃xs,Sq K m H a xs/\xs.length<=i⟩
def eTn(m:Bool)(e it a:Addr)(i:Nat)(h:Heap):Prop:=(∃old,IsEnum h e it i old)/\itSt m it a i h
theorem Qnk{m:Bool}{e:Addr}(n:e≠it)(ac:a≠e)(aa:a≠it) :
  Turn P w K (.Tuple es kk tp) (Ite K m a) [e,it] e (eTn m e it a) where
 mem:=by simp
 obj:=fun i h j c d=>by
  obtain⟨⟨g,r⟩,l⟩:=j
  simp only[yK,jXa,or_false]at d
  rcases d with rfl | rfl
  .exact⟨_,r,fun v z=>by cases z⟩
  .exact(Za (P:=P) (w:=w) m c a).obj i h l
 keep:=fun i h h' j k=>by
  obtain⟨⟨g,r⟩,l⟩:=j
  exists ⟨g,k e (by simp) _ r⟩,(Za (P:=P) (w:=w) m it a).keep i h h' l (k it (by simp))
 item:=by
  intro X Q R V d i f s D H E I p j G
  subst Q R V
  obtain⟨xs,x,y,W⟩:=G
  obtain⟨T,O,C,z1⟩:=I.sq y
  obtain⟨v1,e1,S⟩:=O.get W
  obtain⟨⟨g,A⟩,B⟩:=j
  refine Qei (Za m it a) A B C e1 n fun h' a1 Z a3 a4=>⟨_,rfl,?_⟩
  have kk:∀c q,c∉[e,it]->s.heap.get? c=some q->h'.get? c=some q:=fun c q d e=>by
   simp only[yK,jXa,or_false,not_or]at d
   exact a4 c q d.1 d.2 e
  have I1:Inv X f D (upd H (qa s) (.tup [.int (i:Nat),x])) { s with heap:=h' }:=I.tupNew (ch:=[e,it]) (its:=[.int i s.toks,v1]) (jJ _) (.cons ⟨_,rfl⟩ (.cons S .nil)) (Z1 2) a3 p kk (fun c d=>by
   simp only[yK,jXa,or_false]at d
   rcases d with rfl | rfl
   .exact⟨_,a1⟩
   .obtain⟨q,z,_⟩:=(Za (P:=X.prog) (w:=X.w) m c a).obj _ _ Z;exists q,z)
  refine wpAny_letOwnedTupleGo_enum (s:={ s with heap:=h',toks:=s.toks+1 }) a1 fun l g1 Y=>?_
  obtain⟨J,N,f2,U,L,F⟩:=p e (by simp)
  have u:e<(qa s):=zQ A
  have I2:Inv X f D (upd H (qa s) (.tup [.int (i:Nat),x])) { s with heap:=l,toks:=s.toks+1 }:=I1.turned (h':=l) (t':=s.toks+1) (fun c q d z=>Y.extBut c q d z) (by rw[Qj (xQ u)];exact J) N U L F
  exists .ref (qa s),_,I2,rfl,⟨_,x,rfl,I.hok.fresh (jJ _),rfl,fun ab hq=>by rw[I.sq_inj hq y];exact W⟩,⟨⟨_,by exact_mod_cast g1⟩,(Za (P:=X.prog) (w:=X.w) m it a).keep _ _ _ Z fun q z=>Y.extBut _ _ n.symm z⟩,fun c d=>?_
  have M:c≠(qa s):=by
   simp only[yK,jXa,or_false]at d
   rcases d with rfl | rfl
   .exact xQ u
   .obtain⟨q,z,_⟩:=(Za (P:=X.prog) (w:=X.w) m c a).obj _ _ B;exact xQ (zQ z)
  rw[Qj M]
  exact(p c d).1
 done:=by
  intro X Q R V d i f s D H E I p j G
  subst Q R V
  obtain⟨xs,y,W⟩:=G
  obtain⟨T,O,C,z1⟩:=I.sq y
  obtain⟨⟨g,A⟩,B⟩:=j
  have l1:=O.length
  obtain⟨J,N,f2,U,L,F⟩:=p it (by simp)
  exact Qgs (I.ok.hd d) (Za m it a) A B C (jYb.mpr Om) fun h' eb=>⟨rfl,I.turned (t':=s.toks) (fun b o hb z=>eb b o hb z) J N U L F⟩
 self:=fun _ _ _ _ _ j h=>by
  obtain⟨⟨g,r⟩,_⟩:=j
  exact wpAny_pyIter_enum r h
def iEnum(K:Fg)(m:Bool)(ta:TA):TI:=fun σ H R=>ta σ H fun vs H1=>∃a,vs=[.ref a]/\(∃xs,Sq K m H1 a xs)/\R (Ite K m a) H1
theorem Qnl{a:Expr}{p:Pos}(m:Bool)(J:Gl X "enumerate")(O:X.mg "enumerate"=none)(N:PA X [a] ta)(G:qb (starEach [a] X.env=[(false,eval a X.env)])) :
  PI X (.Tuple es kk tp) (.Call (.Name "enumerate" p) [a] [] pos) (iEnum X.K m ta):=by
 intro g s x H R I h
 refine Call_ (Qav I J O Qgk (PyProof.Rows.callWith_type1 (thn (N pos g s x H _ I h) fun Q d n=>?_) G rfl))
 obtain⟨P,E,l,D,u⟩:=n
 obtain⟨f,e,⟨U,u⟩,q⟩:=u
 subst e
 obtain⟨S,rfl,M⟩:=D.one
 cases M
 obtain⟨v,D,w,T⟩:=l.sq u
 refine callType_new F.called_enumerate Dc (F.typeCall_enumerate_1 _) (F.newCall_enumerate_1 _) (fun r=>F.args_object_init_2 r _) F.entry_enumerate_new (Qlf (Qhv m f v)) ⟨w,?_⟩
 have y:(d.heap.push (Vv (itN m) f)).objs.size=(qa d)+1:=jKa ..
 have i:((d.heap.push (Vv (itN m) f)).push { cls:=.type "enumerate",data:=.fields #[.none,.bool false,.ref (qa d),rawInt 0,.none,.none] }).get? (d.heap.push (Vv (itN m) f)).objs.size=some { cls:=.type "enumerate",data:=.fields #[.none,.bool false,.ref (qa d),rawInt 0,.none,.none] }:=yZ _ rfl
 have B:((d.heap.push (Vv (itN m) f)).push { cls:=.type "enumerate",data:=.fields #[.none,.bool false,.ref (qa d),rawInt 0,.none,.none] }).get? (qa d)=some (Vv (itN m) f):=jK _ (yZ _ rfl)
 rw[y]at i
 show _/\_
 rw[y]
 have A:∀b o,d.heap.get? b=some o->((d.heap.push (Vv (itN m) f)).push { cls:=.type "enumerate",data:=.fields #[.none,.bool false,.ref (qa d),rawInt 0,.none,.none] }).get? b=some o:=fun b o z=>jK _ (jK _ z)
 generalize (d.heap.push (Vv (itN m) f)).push { cls:=.type "enumerate",data:=.fields #[.none,.bool false,.ref (qa d),rawInt 0,.none,.none] }=h' at B i A
 have L:Inv X g x E { d with heap:=h' }:=l.kept (t':=d.toks) A
 have j:f<(qa d):=Qeb w
 exists ⟨_,i,rfl⟩,wpAny_pyIter_enum (s:={ d with heap:=h' }) i ⟨_,[(qa d)+1,(qa d)],_,_,E,rfl,L,Qnk (m:=m) (a:=f) (Nat.succ_ne_self _) (xQ (Nat.lt_succ_of_lt j)) (xQ j),⟨⟨_,i⟩,Qea m B⟩,fun c C=>?_,q⟩
 have k:(qa d)<=c:=by
  simp only[yK,jXa,or_false]at C
  rcases C with rfl | rfl
  .exact kQe _ _
  .exact jJ _
 exact l.fpOk k (l.hok.fresh k)
theorem Qjm{m:Bool}{g:TG}{D:Ends}(b:Nat->St->Hp->Prop)(l:b 0 σ H)(f:∀i σ H,i<=xs.length->b i σ H->Sq K m H a xs)
  (r:∀i x σ H T,xs[i]?=some x->b i σ H->H T=none->g (.ref T) σ (upd H T (.tup [.int (i:Nat),x])) fun σ2 H2=>tb { D with nx:=b (i+1),ct:=b (i+1),bk:=D.nx } σ2 H2) (q:∀σ H,b xs.length σ H->D.nx σ H) :
  ∃W:Nat->Nat->St->Hp->Prop,(∃m,W 0 m σ H)/\∀i n σ H,W i n σ H ->
   ((Ite K m a).stop i H/\D.nx σ H)\/((Ite K m a).go i H/\∃N:St->Hp->Prop,(∀σ' H',N σ' H'->∃m',m'<n/\W (i+1) m' σ' H')/\∀x H',(Ite K m a).yld i H x H'->g x σ H' fun σ2 H2=>tb { D with nx:=N,ct:=N,bk:=D.nx } σ2 H2):=by
 exists fun i n σ H=>n=xs.length-i/\i<=xs.length/\b i σ H,⟨_,rfl,jZb _,l⟩,?_
 rintro i n σ H ⟨rfl,h,p⟩
 have d:=f i σ H h p
 by_cases c:i<xs.length
 .refine .inr ⟨⟨xs,xs[i],d,by simp[c]⟩,b (i+1),fun σ' H' k=>⟨xs.length-(i+1),Om,rfl,c,k⟩,fun x H' y=>?_⟩
  obtain⟨T,u,rfl,o,rfl,j⟩:=y
  exact r i u σ H T (j xs d) p o
 .have e:i=xs.length:=Om
  subst e
  exact .inl ⟨⟨xs,d,jJ _⟩,q σ H p⟩
def Itr3(lo c:Int)(n:Nat):It:=⟨fun i _=>i<n,fun i H x H'=>H'=H/\x=.int (lo+(i:Nat)*c),fun i _=>n<=i⟩
theorem Qhz(f:Addr)(lo c:Int)(n:Nat):Turn P w K tg (Itr3 lo c n) [f] f (fun i h=>IsRangeIter h f (lo+(i:Nat)*c) ((n:Int)-(i:Nat)) c) where
 mem:=by simp
 obj:=fun i h a b g=>by
  have e:b=f:=by simpa using g
  subst e
  exact⟨_,a,fun v z=>by
   have L:Data.fields _=Data.cell v:=z
   cases L⟩
 keep:=fun i h m a k=>k f (by simp) _ a
 item:=by
  intro X B A D x i d s F H E I l a q
  subst B A D
  obtain⟨r,y,J,C,u,p⟩:=l f (by simp)
  have W:=Walks.range (prog:=X.prog) (w:=X.w) (I.ok.hd x) f lo c n
  refine W.item i s _ _ q a fun v m G hv j M=>?_
  obtain⟨t,rfl⟩:=hv
  have O:Inv X d F H { s with heap:=m,toks:=G }:=I.turned (fun b o g e=>M b o (by simpa using g) e) r y C u p
  exists 4,Qqf (s:={ s with heap:=m,toks:=G }) (n:="range_iterator") j rfl rfl Dc ⟨.int (lo+(i:Nat)*c),H,O,⟨t,rfl⟩,⟨rfl,rfl⟩,j,fun b g=>(l b g).1⟩
 done:=by
  intro X B A D x i d s F H E I l a q
  subst B A D
  obtain⟨r,y,J,C,u,p⟩:=l f (by simp)
  exact wpAny_pyNext_range_end (I.ok.hd x) a (by have:n<=i:=q;lia) fun m N=>⟨rfl,I.turned (t':=s.toks) (fun b o g e=>N b o g e) r y C u p⟩
 self:=fun _ _ _ _ _ a h=>wpAny_pyIter_rangeiter a h
theorem Qbz(a b c:Int)(d:c≠0):0<=Builtin.Range.rangeSize a b c:=by
 unfold Builtin.Range.rangeSize
 split
 .split
  .have:=Int.ediv_nonneg (a:=b-a-1) (b:=c) Om Om;lia
  .exact kYd 0
 .split
  .have:=Int.ediv_nonneg (a:=a-b-1) (b:=-c) Om Om;lia
  .exact kYd 0
def iRng3(ta:TA):TI:=fun σ H R=>ta σ H fun vs H1=>∃i j c:Int,vs=[.int i,.int j,.int c]/\(c≠0/\c.natAbs<1073741824/\Builtin.Range.small i j c=true)/\R (Itr3 i c (Builtin.Range.rangeSize i j c).toNat) H1
theorem Qgt{a b c:Expr}{p:Pos}(y:Gl X "range")(K:X.mg "range"=none)(F:PA X [a,b,c] ta)(x:qb (starEach [a,b,c] X.env=[(false,eval a X.env),(false,eval b X.env),(false,eval c X.env)]))(l:qb (starEach [b,c] X.env=[(false,eval b X.env),(false,eval c X.env)])) :
  PI X tg (.Call (.Name "range" p) [a,b,c] [] pos) (iRng3 ta):=by
 intro f s u H R I h
 refine Call_ (Qav I y K boot_range (PyProof.Rows.callWith_type1 (thn (F pos f s u H _ I h) fun M g m=>?_) (by rw[x,l]) (by rw[l];rfl)))
 obtain⟨L,w,A,D,G⟩:=m
 obtain⟨i,j,k,e,⟨v,C,z⟩,q⟩:=G
 subst e
 cases D with
 |cons r rr=>
  cases rr with
  |cons r' rr=>
   cases rr with
   |cons r'' rr=>
    cases rr
    obtain⟨t,rfl⟩:=r
    obtain⟨t',rfl⟩:=r'
    obtain⟨d,rfl⟩:=r''
    refine call_range_3 v ?_ (.inl (PyProof.noPylong_small C))
    refine wpAny_pyIter_range (IsRange.new ..) z ?_
    have n:Inv X f u w { g with heap:=g.heap.push { cls:=.type "range",data:=.fields #[.int i t,.int j t',.int k d] },toks:=g.toks }:=A.kept fun b o e=>jK _ e
    refine⟨(g.heap.push { cls:=.type "range",data:=.fields #[.int i t,.int j t',.int k d] }).objs.size,[(g.heap.push { cls:=.type "range",data:=.fields #[.int i t,.int j t',.int k d] }).objs.size],_,_,w,rfl,
     n.kept (t':=g.toks) fun b o e=>jK _ e,Qhz _ i k (Builtin.Range.rangeSize i j k).toNat,?_,fun b J=>?_,q⟩
    .have B:i+((0:Nat):Int)*k=i:=by simp
     have E:(((Builtin.Range.rangeSize i j k).toNat:Nat):Int)-((0:Nat):Int)=Builtin.Range.rangeSize i j k:=by have:=Qbz i j k v;lia
     show IsRangeIter _ _ (i+((0:Nat):Int)*k) ((((Builtin.Range.rangeSize i j k).toNat:Nat):Int)-((0:Nat):Int)) k
     rw[B,E]
     exact yZ _ rfl
    .have e:b=(g.heap.push { cls:=.type "range",data:=.fields #[.int i t,.int j t',.int k d] }).objs.size:=by simpa using J
     subst e
     exact n.fpOk (jJ _) (n.hok.fresh (jJ _))
theorem Qdm{lo c:Int}{g:TG}{D:Ends}(a:Nat->St->Hp->Prop)(f:a 0 σ H)
  (j:∀i σ H,i<n->a i σ H->g (.int (lo+(i:Nat)*c)) σ H fun σ2 H2=>tb { D with nx:=a (i+1),ct:=a (i+1),bk:=D.nx } σ2 H2) (h:∀σ H,a n σ H->D.nx σ H) :
  ∃W:Nat->Nat->St->Hp->Prop,(∃m,W 0 m σ H)/\∀i m σ H,W i m σ H ->
   ((Itr3 lo c n).stop i H/\D.nx σ H)\/((Itr3 lo c n).go i H/\∃N:St->Hp->Prop,(∀σ' H',N σ' H'->∃m',m'<m/\W (i+1) m' σ' H')/\∀x H',(Itr3 lo c n).yld i H x H'->g x σ H' fun σ2 H2=>tb { D with nx:=N,ct:=N,bk:=D.nx } σ2 H2):=by
 exists fun i m σ H=>m=n-i/\i<=n/\a i σ H,⟨n,by simp,jZb _,f⟩,?_
 rintro i m σ H ⟨rfl,k,p⟩
 by_cases b:i<n
 .refine .inr ⟨b,a (i+1),fun σ' H' d=>⟨n-(i+1),Om,rfl,b,d⟩,fun x H' y=>?_⟩
  obtain⟨e,y⟩:=y
  subst e y
  exact j i σ _ b p
 .have e:i=n:=Om
  subst e
  exact .inl ⟨jJ _,h σ H p⟩
end L2
namespace L2
open PySem PySem.Spec PyProof.Rows PySem.W
theorem Qak:OpR X (binaryOp .Mult) (rI IntMulOk fun i j=>.int (i*j)):=opI fun _ _ _ _ _ _ _ a q=>mul_int q a
theorem Qjn:PGet X (rIxL X.K):=by
 intro a s u H o i G L Q I m n h
 obtain⟨p,J,k,z,rfl,rfl,C,A,q⟩:=h
 cases m
 obtain⟨t,rfl⟩:=n
 obtain⟨e,r,f,E⟩:=I.list C
 obtain⟨j,b,B,F,y,v⟩:=Qhs A
 obtain⟨w,g,d⟩:=r.get B
 have x:=r.length
 have D:=Qfv
 have fin:EP X a u Q w s:=⟨z,H,I,d,q⟩
 by_cases l:0<=k
 .have c:k.toNat=j:=by
   rw[seqIndex_of l v]at b
   exact Y5 b
  exact wpAny_getItem_list f.isList l Om (by rw[c];simpa using g) fin
 .have c:(k+(e.toArray.size:Int)).toNat=j:=by
   rw[seqIndex_neg Om y]at b
   rw[kX,<-x]
   exact Y5 b
  exact wpAny_getItem_list_neg f.isList Om (by rw[kX]<;>lia) Om (by rw[c];simpa using g) fin
inductive IsT:String->Prop
 |int:IsT "int"
 |bool:IsT "bool"
 |tuple:IsT "tuple"
 |list:IsT "list"
 |str:IsT "str"
def isiW(K:Fg)(H:Hp):V->String->Bool->Prop
 |.non,_,b=>b=false
 |.int _,T,b=>b=decide (T="int")
 |.bl _,T,b=>b=decide (T="int"\/T="bool")
 |.str _,T,b=>b=decide (T="str")
 |.ref a,T,b=>((∃xs,SqT K H a xs)/\b=decide (T="tuple"))\/((∃xs,SqL K H a xs)/\b=decide (T="list"))
 |_,_,_=>False
theorem Xn:Jv X (.builtin "isinstance") (fun xs H Q=>∃x T b,xs=[x,.ty T]/\IsT T/\isiW X.K H x T b/\Q (.bl b) H):=by
 intro g s y H xs z Q I p h
 obtain⟨x,T,b,rfl,f,d,q⟩:=h
 obtain⟨u,v,rfl,i,w⟩:=p.two
 cases w
 have fin:∀(l:Nat),EP X g y Q (.bool b) { s with toks:=l }:=fun l=>⟨.bl b,H,I.tok l,rfl,q⟩
 cases x with
 |int n=>
  obtain⟨t,rfl⟩:=i
  cases f<;>(subst d)
  .exact IsiPair.int_int (fin s.toks)
  .exact IsiPair.int_bool (fin _)
  .exact IsiPair.int_tuple (fin _)
  .exact IsiPair.int_list (fin _)
  .exact IsiPair.int_str (fin _)
 |bl n=>
  cases i
  cases f<;>(subst d)
  .exact IsiPair.bool_int (fin s.toks)
  .exact IsiPair.bool_bool (fin s.toks)
  .exact IsiPair.bool_tuple (fin _)
  .exact IsiPair.bool_list (fin _)
  .exact IsiPair.bool_str (fin _)
 |str n=>
  obtain⟨t,rfl⟩:=i
  cases f<;>(subst d)
  .exact IsiPair.str_int (fin _)
  .exact IsiPair.str_bool (fin _)
  .exact IsiPair.str_tuple (fin _)
  .exact IsiPair.str_list (fin _)
  .exact IsiPair.str_str (fin s.toks)
 |non=>
  cases i
  cases f<;>(subst d)
  .exact IsiPair.NoneType_int (fin _)
  .exact IsiPair.NoneType_bool (fin _)
  .exact IsiPair.NoneType_tuple (fin _)
  .exact IsiPair.NoneType_list (fin _)
  .exact IsiPair.NoneType_str (fin _)
 |ref a=>
  cases i
  rcases d with⟨⟨xs,j⟩,d⟩ | ⟨⟨xs,j⟩,d⟩
  .obtain⟨k,r,⟨o,e,c,_⟩,_⟩:=I.tuple j
   cases f<;>(subst d)
   .exact IsiPair.tuple_int e c (fin _)
   .exact IsiPair.tuple_bool e c (fin _)
   .exact IsiPair.tuple_tuple e c (fin s.toks)
   .exact IsiPair.tuple_list e c (fin _)
   .exact IsiPair.tuple_str e c (fin _)
  .obtain⟨k,r,m,_⟩:=I.list j
   obtain⟨o,e,c,_⟩:=m.isList
   cases f<;>(subst d)
   .exact IsiPair.list_int e c (fin _)
   .exact IsiPair.list_bool e c (fin _)
   .exact IsiPair.list_tuple e c (fin _)
   .exact IsiPair.list_list e c (fin s.toks)
   .exact IsiPair.list_str e c (fin _)
 |byt _=>exact d.elim
 |flt _=>exact d.elim
 |ty _=>exact d.elim
theorem Qia(h:WData.layableAll [WData.list (ns.map WData.int)]=true):∀n∈ns,Builtin.Int.intBits n<=2 ^ 20:=by
 intro n f
 have e:=layableW_arg h _ (kW.mpr rfl)
 obtain⟨a,i,b⟩:=layableW_iff.mp e
 simp only[WData.canLay]at a
 simp only[WData.weight]at b
 obtain⟨_,_,c⟩:=items_part (d:=WData.int n) (zJ.mpr ⟨n,f,rfl⟩) a
 have g:(WData.int n).weight<=2 ^ 20:=jZf c b
 simpa only[WData.weight,Builtin.Int.intBits]using g
open Att in
theorem Qqy{l:PySem.W.OpenLaw}{k:Nat}{q:Program}{XP:Z9->Heap->Prop}{YP:World->Heap->Prop}{d:DefRec}{K:Params->Fg}{CX:World->CXT}{sp:World->Sp}
  (Q:l.most=some n) (A:n<=sizeLine) (B:d.params.defaults=[]) (P:Room k callerA)
  (hY:∀(w:World) (h:Heap),YP w h->(K w.params).In h)
  (F:∀(w:World) (mg:Z9) (fa:Addr) (h:Heap),(K w.params).In h->h.Ns mainGlobals mg->mg d.name=some (.ref fa) ->
   ∃fd:FuncData,(∀(s:Shared) (u:Value),BindsTo s fd ⟨[u],[]⟩ [(x,u)]) /\
    ∀base:Heap,(K w.params).In base->base.Ns mainGlobals mg->FnOk l.prog w (K w.params) mg base (CX w) k fa fd [x] (sp w))
  (z:∀(w:World) (H:Hp) (a:Addr) (ns:List Int),ns.length<=n->(∀m∈ns,Builtin.Int.intBits m<=2 ^ 20)->SqL (K w.params) H a (ns.map V.int)->sp w [.ref a] H (fun v _=>v=.bl true) fun _ _ _=>False)
  (C:∀(w:World) (H:Hp) (s:Shared) (e:Value) (s':Shared),CX w [] H s (fun _ _ _=>False) e s'->False) :
  PySem.W.WalkO q loose XP YP l.row.toRowW d [] (fun f vs=>PySem.call f vs):=by
 intro w I y mg mb G Y fa o pm cd aa dV kV ho hd Z N D R J L as p j ab E ac
 obtain rfl:dV=.none:=Dflts.none N B
 obtain rfl:kV=.none:=Dflts.noKw N
 obtain⟨a,vs,ns,rfl,rfl,t,i,c⟩:=Qmr Q p E
 have M:=hY w _ Y
 obtain⟨fd,hb,hF⟩:=F w mg fa _ M G.T.g D
 refine enter_call (codeAny_mono (Qqn M G.T.g G.T.b G.T.builtins G.T.nolimit R t i (jZf c A) P hF hb (fun H hO hS=>z w H a ns c (Qia j) hS) fun H e s'=>C w H y e s') fun r s' hq=>?_)
 obtain⟨rfl,X,S,U⟩:=hq
 exists .inl ⟨.bool true,.bool true,[],rfl,fun _=>rfl,.bool true,Qms l _,fun _=>⟨List.Pairwise.nil,fun _ O=>(nomatch O)⟩⟩,X,S,U
end L2
namespace L2
open PySem PySem.Spec PySem.Calls PyProof.Rows PySem.W
def Big(i:Int):Prop:=i.natAbs<2 ^ 4000
theorem Wr:OpR X (binaryOp .FloorDiv) (rI (fun _ j=>j≠0/\Big j) fun i j=>.int (i.fdiv j)):=opI fun i j _ _ _ _ _ a q=>floordiv_int a.1 q (.inl (PyProof.noPylong_of_log2 (xV ((Nat.log2_lt (by have:=a.1;lia)).mpr a.2) Dc)))
def rCatG(K:Fg):R2:=fun x y H Q=>∃a b xs ys,x=.ref a/\y=.ref b/\SqT K H a xs/\SqT K H b ys/\ys≠[]/\xs.length+ys.length<=sizeLine/\∀(p:Addr) (H':Hp),Same H H'->SqT K H' p (xs++ys)->Q (.ref p) H'
theorem Qca:OpR X (binaryOp .Add) (rCatG X.K):=by
 intro d s J H x y v u Q I C m h
 obtain⟨a,b,B,T,rfl,rfl,A,l,U,N,q⟩:=h
 by_cases o:B=[]
 .subst o
  cases C
  cases m
  obtain⟨j,S,G,_⟩:=I.tuple A
  obtain⟨c,W,M,_⟩:=I.tuple l
  have L:j=[]:=S.nil_iff.mpr rfl
  subst L
  obtain⟨⟨Z,D,V,i⟩,t,w,n,r⟩:=id G
  obtain⟨⟨Y,R,E,k⟩,f,e,P,g⟩:=id M
  simp only at w r e g
  subst w r e g
  exact concat_meets ⟨_,t,rfl⟩ ⟨_,f,rfl⟩ noFill_tuple_add seq_tuple_add PySem.F.slot_tuple_add PySem.F.entry_tuple_add (PySem.F.args_tuple_add_2 _ _) (tuple_addW0 a b ([]:List Value).toArray c.toArray n P D R i k (by simp)) ⟨t,f,⟨.ref b,H,I,rfl,q b H (Same.refl H) l⟩⟩
 .exact Qdy d s J H (.ref a) (.ref b) v u Q I C m ⟨a,b,B,T,rfl,rfl,A,l,o,N,fun z=>Y21 z U,fun _ p O=>q p _ (Qb O _) (Qn upd_same)⟩
theorem Qqz(a:X.K=K):OpR X (binaryOp .Add) (rCatG K):=by subst a;exact Qca
end L2
namespace L2
open PySem PySem.W PyProof.Rows
def kGood{α:Type}(f:Nat->Nat->Bool)(n:Nat):KasT α->(α->Prop)->Prop
 |.ret a,Q=>Q a
 |.ask i j k,Q=>i<n/\j<n/\kGood f n (k (f i j)) Q
theorem kGood.bind{α β:Type}{f:Nat->Nat->Bool}{n:Nat}{g:α->KasT β}{Q:β->Prop}:∀(t:KasT α),kGood f n t (fun a=>kGood f n (g a) Q)->kGood f n (t.bind g) Q
 |.ret a,h=>h
 |.ask i j k,h=>⟨h.1,h.2.1,kGood.bind (k (f i j)) h.2.2⟩
theorem kGood.mono{α:Type}{f:Nat->Nat->Bool}{n:Nat}{Q Q':α->Prop}(b:∀a,Q a->Q' a):∀(t:KasT α),kGood f n t Q->kGood f n t Q'
 |.ret a,h=>b a h
 |.ask i j k,h=>⟨h.1,h.2.1,kGood.mono b (k (f i j)) h.2.2⟩
theorem kGood.wp{α:Type}{f:Nat->Nat->Bool}{n:Nat}{cmp:Nat->Nat->(Bool->Shared->Prop)->Shared->Prop}{s:Shared}(b:∀i j C,i<n->j<n->C (f i j) s->cmp i j C s){Q:α->Prop}{R:α->Shared->Prop}(c:∀a,Q a->R a s) :
  ∀(t:KasT α),kGood f n t Q->t.kasWp cmp R s
 |.ret a,h=>c a h
 |.ask i j k,h=>b i j _ h.1 h.2.1 (kGood.wp b c (k (f i j)) h.2.2)
theorem Qjo{g:Nat->Int}{m:Nat}(h:∀i,i+1<m->g i<=g (i+1)):∀j i,i<=j->j<m->g i<=g j
 |0,i,hi,_=>by rw[Nat.le_zero.mp hi];exact kYd _
 |j+1,i,hi,hj=>by
  by_cases e:i=j+1
  .rw[e];exact kYd _
  .exact Int.le_trans (Qjo h j i Om Om) (h j hj)
section
variable{r:Nat->Int}
def rk(r:Nat->Int)(p:Array Nat)(i:Nat):Int:=r (p.getD i 0)
def Ki(r:Nat->Int)(i j:Nat):Bool:=decide (r i<r j)
def PermN(n:Nat)(p:Array Nat):Prop:=p.Perm (List.toArray (List.range n))
theorem gD{q:Array Nat}(h:p[i]?=q[j]?):p.getD i 0=q.getD j 0:=by rw[jJe,jJe,h]
theorem Qnm{q:Array Nat}(h:p[i]?=q[j]?):rk r p i=rk r q j:=congrArg r (gD h)
theorem PermN.size(h:PermN n p):p.size=n:=by have:=h.size_eq;simpa using this
theorem PermN.lt(h:PermN n p)(a:0<n)(i:Nat):p.getD i 0<n:=by
 rw[jJe]
 cases e:p[i]? with
 |none=>exact a
 |some v=>
  have b:v∈p:=Array.mem_of_getElem? e
  have:=h.mem_iff.mp b
  simpa using this
theorem PermN.rev(h:PermN n p)(i j:Nat):PermN n (kas_rev p i j):=(mirror_perm p i j _).trans h
theorem Qnn(a:j<=p.size)(k:Nat):rk r (kas_rev p i j) k=if i<=k/\k<j then rk r p (i+j-1-k)else rk r p k:=by
 have e:=getElem?_mirror_all (i:=i) a k
 by_cases c:i<=k/\k<j
 .rw[Y22 c]at e⊢;exact Qnm e
 .rw[Y20 c]at e⊢;exact Qnm e
theorem Qej{p:Array Nat}(b:PermN n p)(d:0<n):∀(f a:Nat),kGood (Ki r) n (kas_asc p f a) fun m=>a<=m/\m<=a+f/\(∀i,a<=i->i<m->rk r p (i-1)<=rk r p i)/\(m<a+f->rk r p m<rk r p (m-1))
 |0,a=>⟨jJ _,jJ _,fun i j g=>Om,fun h=>Om⟩
 |f+1,a=>by
  exists b.lt d _,b.lt d _,?_
  by_cases c:rk r p a<rk r p (a-1)
  .rw[show Ki r (p.getD a 0) (p.getD (a-1) 0)=true from yJ c];dsimp only;rw[Y22 rfl]
   exists jJ _,Om,fun i j g=>Om,fun _=>c
  .rw[show Ki r (p.getD a 0) (p.getD (a-1) 0)=false from yV c];dsimp only;rw[Y20 yX]
   refine kGood.mono (fun m h=>?_) _ (Qej b d f (a+1))
   obtain⟨j,g,l,o⟩:=h
   exists Om,Om,fun i q k=>?_,fun z=>o Om
   by_cases e:i=a
   .subst e;lia
   .exact l i Om k
def Qra(r:Nat->Int)(p:Array Nat)(m:Nat):Prop:=∀i,1<=i->i<m->rk r p i<=rk r p (i-1)
def Flat(r:Nat->Int)(p:Array Nat)(m q:Nat):Prop:=q+1<=m/\∀i,m-(q+1)<=i->i<m->rk r p i=rk r p (m-1)
theorem Qek(a:PermN n p){q:Nat}(b:m<=n)(h:Flat r p m q)(k:Nat):rk r (kas_rev p (m-(q+1)) m) k=rk r p k:=by
 rw[Qnn (by rw[a.size];exact b)]
 have d:=h.1
 by_cases c:m-(q+1)<=k/\k<m
 .rw[Y22 c,h.2 k c.1 c.2,h.2 _ Om Om]
 .rw[Y20 c]
theorem Ws(j:0<n):∀(f:Nat) (p:Array Nat) (a q:Nat),PermN n p->a+f<=n->1<=a->Qra r p a->Flat r p a q->kGood (Ki r) n (kas_desc f p a q) fun x=>PermN n x.1/\a<=x.2.1/\x.2.1<=a+f/\Qra r x.1 x.2.1/\Flat r x.1 x.2.1 x.2.2
 |0,p,a,q,hp,_,_,h1,h2=>⟨hp,jJ _,jJ _,h1,h2⟩
 |f+1,p,a,q,hp,hf,ha,h1,h2=>by
  exists hp.lt j _,hp.lt j _,?_
  have b:∀o:Array Nat,Flat r o (a+1) 0:=fun o=>⟨Om,fun i g l=>by rw[show i=a by lia];rfl⟩
  by_cases c:rk r p a<rk r p (a-1)
  .rw[show Ki r (p.getD a 0) (p.getD (a-1) 0)=true from yJ c];dsimp only;rw[Y22 rfl]
   by_cases m:q > 0
   .rw[Y22 m]
    have e:=Qek hp Om h2
    refine kGood.mono (fun x h=>⟨h.1,by have:=h.2.1;lia,by have:=h.2.2.1;lia,h.2.2.2⟩) _ (Ws j f _ (a+1) 0 (hp.rev _ _) Om Om (fun i g l=>?_) (b _))
    rw[e,e]
    by_cases k:i=a
    .subst k;lia
    .exact h1 i g Om
   .rw[Y20 m]
    refine kGood.mono (fun x h=>⟨h.1,by have:=h.2.1;lia,by have:=h.2.2.1;lia,h.2.2.2⟩) _ (Ws j f _ (a+1) 0 hp Om Om (fun i g l=>?_) (b _))
    by_cases k:i=a
    .subst k;lia
    .exact h1 i g Om
  .rw[show Ki r (p.getD a 0) (p.getD (a-1) 0)=false from yV c];dsimp only;rw[Y20 yX]
   exists hp.lt j _,hp.lt j _,?_
   by_cases d:rk r p (a-1)<rk r p a
   .rw[show Ki r (p.getD (a-1) 0) (p.getD a 0)=true from yJ d];dsimp only;rw[Y22 rfl]
    exists hp,jJ _,kQe _ _,h1,h2
   .rw[show Ki r (p.getD (a-1) 0) (p.getD a 0)=false from yV d];dsimp only;rw[Y20 yX]
    refine kGood.mono (fun x h=>⟨h.1,by have:=h.2.1;lia,by have:=h.2.2.1;lia,h.2.2.2⟩) _ (Ws j f _ (a+1) (q+1) hp Om Om (fun i g l=>?_) ⟨by have:=h2.1;lia,fun i g l=>?_⟩)
    .by_cases k:i=a
     .subst k;lia
     .exact h1 i g Om
    .have:=h2.1
     show rk r p i=rk r p a
     by_cases k:i=a
     .rw[k]
     .rw[h2.2 i Om Om];lia
def Qcb(r:Nat->Int)(p:Array Nat)(m:Nat):Prop:=∀i j,i<=j->j<m->rk r p i<=rk r p j
theorem Qjp(h:∀i,1<=i->i<m->rk r p (i-1)<=rk r p i):Qcb r p m:=fun i j=>Qjo (fun i a=>h (i+1) Om a) j i
theorem Qdn(g:0<n)(a:PermN n p)(o:1<=m)(j:m<=n)(h:Qra r p m):kGood (Ki r) n (kas_tail3 m n p) fun x=>PermN n x.2/\1<=x.1/\x.1<=n/\Qcb r x.2 x.1:=by
 refine kGood.bind _ (kGood.mono (fun k d=>?_) _ (Qej (a.rev 0 m) g (n-m) m))
 obtain⟨l,s,f,_⟩:=d
 exists a.rev _ _,by show 1<=k;lia,by show k<=n;lia,Qjp fun i q e=>?_
 by_cases c:i<m
 .have b:m<=p.size:=by rw[a.size];exact j
  rw[Qnn b,Qnn b,Y22 ⟨Om,Om⟩,Y22 ⟨Om,c⟩]
  have:=h (0+m-1-(i-1)) Om Om
  rw[show 0+m-1-(i-1)-1=0+m-1-i by lia]at this
  exact this
 .exact f i Om e
theorem Wt(b:0<n)(k:PermN n p)(q:1<=m)(t:m<n)(h:Qra r p (m+1)):kGood (Ki r) n (kas_descPart m n p) fun x=>PermN n x.2/\1<=x.1/\x.1<=n/\Qcb r x.2 x.1:=by
 refine kGood.bind _ (kGood.mono (fun x l=>?_) _ (Ws b (n-(m+1)) p (m+1) 0 k Om Om h ⟨Om,fun i g f=>by rw[show i=m by lia];rfl⟩))
 obtain⟨a,o,s,d,j⟩:=l
 by_cases c:x.2.2 > 0
 .rw[Y22 c]
  have e:=Qek a Om j
  exact Qdn b (a.rev _ _) Om Om fun i g f=>by rw[e,e];exact d i g f
 .rw[Y20 c]
  exact Qdn b a Om Om d
theorem Qlg(b:0<n)(a:PermN n p):kGood (Ki r) n (kas_count n p) fun x=>PermN n x.2/\1<=x.1/\x.1<=n/\Qcb r x.2 x.1:=by
 refine kGood.bind _ (kGood.mono (fun m s=>?_) _ (Qej a b (n-1) 1))
 obtain⟨f,u,o,l⟩:=s
 have up:Qcb r p m:=Qjp o
 by_cases c:(m == n)=true
 .rw[Y22 c]
  exists a,f,by show m<=n;lia,up
 .rw[Y20 c]
  have y:m≠n:=fun z=>c (by rw[z];exact beq_self_eq_true n)
  have t:=l Om
  by_cases j:m > 1
  .rw[Y22 j]
   exists a.lt b _,a.lt b _,?_
   by_cases d:rk r p 0<rk r p (m-1)
   .rw[show Ki r (p.getD 0 0) (p.getD (m-1) 0)=true from yJ d];dsimp only;rw[Y22 rfl]
    exists a,f,by show m<=n;lia,up
   .rw[show Ki r (p.getD 0 0) (p.getD (m-1) 0)=false from yV d];dsimp only;rw[Y20 yX]
    have g:Flat r p m (m-1):=⟨Om,fun i k h=>by
     have v:=up 0 i Om h
     have w:=up i (m-1) Om Om
     lia⟩
    have e:=Qek a Om g
    rw[show m-(m-1+1)=0 by lia]at e
    refine Wt b (a.rev _ _) f Om fun i k h=>?_
    rw[e,e]
    by_cases q:i=m
    .subst q;lia
    .rw[g.2 i Om Om,g.2 (i-1) Om Om];exact kYd _
  .rw[Y20 j]
   refine Wt b a f Om fun i k h=>?_
   have:i=m:=Om
   subst this;lia
theorem Qal(h:0<n){p:Array Nat}(g:PermN n p){k:Nat}(up:Qcb r p k):∀(f a b:Nat),a<=b->b<=k->b-a<=f->(∀i,i<a->rk r p i<=rk r p k)->(∀i,b<=i->i<k->rk r p k<=rk r p i) ->
  kGood (Ki r) n (kas_place p k f a b) fun l=>l<=k/\(∀i,i<l->rk r p i<=rk r p k)/\∀i,l<=i->i<k->rk r p k<=rk r p i
 |0,a,b,h1,h2,h3,h4,h5=>⟨Om,h4,fun i j e=>h5 i Om e⟩
 |f+1,a,b,h1,h2,h3,h4,h5=>by
  unfold kas_place
  by_cases c:a≥b
  .rw[Y22 c]
   exists Om,h4,fun i j e=>h5 i Om e
  .rw[Y20 c]
   exists g.lt h _,g.lt h _,?_
   by_cases d:rk r p k<rk r p ((a+b) / 2)
   .rw[show Ki r (p.getD k 0) (p.getD ((a+b) / 2) 0)=true from yJ d];dsimp only;rw[Y22 rfl]
    refine Qal h g up f a ((a+b) / 2) Om Om Om h4 fun i j e=>?_
    have:=up ((a+b) / 2) i j e
    lia
   .rw[show Ki r (p.getD k 0) (p.getD ((a+b) / 2) 0)=false from yV d];dsimp only;rw[Y20 yX]
    refine Qal h g up f ((a+b) / 2+1) b Om Om Om (fun i m=>?_) h5
    have:=up i ((a+b) / 2) Om Om
    lia
theorem Qjq(q:0<n):∀(f:Nat) (p:Array Nat) (k:Nat),PermN n p->k+f=n->Qcb r p k->kGood (Ki r) n (kas_bin f p k) fun x=>PermN n x/\Qcb r x n
 |0,p,k,hp,hk,up=>⟨hp,(show k=n by lia)▸up⟩
 |f+1,p,k,hp,hk,up=>by
  unfold kas_bin
  refine kGood.bind _ (kGood.mono (fun l t=>?_) _ (Qal q hp up k 0 k (jZb _) (jJ _) Om (fun i w=>Om) (fun i y v=>Om)))
  obtain⟨A,u,s⟩:=t
  refine Qjq q f _ (k+1) ((bubble_perm _ _ _).trans hp) Om ?_
  have d:∀i,rk r (bubble p k (k-l)) i=if i=l then rk r p k else if l<i/\i<=k then rk r p (i-1)else rk r p i:=fun i=>by
   have e:=getElem?_bubble (xs:=p) (src:=k) (by rw[hp.size];lia) (k-l) Om i
   rw[show k-(k-l)=l by lia]at e
   by_cases c:i=l
   .rw[Y22 c]at e⊢;exact Qnm e
   .rw[Y20 c]at e⊢
    by_cases o:l<i/\i<=k
    .rw[Y22 o]at e⊢;exact Qnm e
    .rw[Y20 o]at e⊢;exact Qnm e
  intro i j b z
  rw[d,d]
  by_cases g:i=l
  .rw[Y22 g]
   by_cases a:j=l
   .rw[Y22 a];exact kYd _
   .rw[Y20 a,Y22 ⟨Om,Om⟩]
    exact s (j-1) Om Om
  .rw[Y20 g]
   by_cases h:l<i/\i<=k
   .rw[Y22 h,Y20 Om,Y22 ⟨Om,Om⟩]
    exact up (i-1) (j-1) Om Om
   .rw[Y20 h]
    by_cases a:j=l
    .rw[Y22 a];exact u i Om
    .rw[Y20 a]
     by_cases m:l<j/\j<=k
     .rw[Y22 m];exact up i (j-1) Om Om
     .rw[Y20 m];exact up i j b Om
theorem Qno(d:0<n):kGood (Ki r) n (kas_sort n) fun x=>PermN n x/\Qcb r x n:=by
 refine kGood.bind _ (kGood.mono (fun x f=>?_) _ (Qlg d (p:=List.toArray (List.range n)) (Array.Perm.refl _)))
 obtain⟨b,g,h,a⟩:=f
 by_cases c:x.1<n
 .rw[Y22 c,show max x.1 1=x.1 by lia]
  exact Qjq d _ _ _ b Om a
 .rw[Y20 c]
  have e:x.1=n:=Om
  rw[e]at a
  exists b,a
end
end L2
namespace L2
open PySem PySem.Spec PySem.W PyProof.Rows
open PySem.SeqAt
theorem Qur{a b:Int}{as bs:List Int}:decide (a::as<b::bs)=if a=b then decide (as<bs)else decide (a<b):=by
 rw[jXc]
 by_cases e:a=b
 .subst e
  rw[Y22 rfl,decide_eq_true_iff,decide_eq_true_iff,List.cons_lt_cons_iff]
  constructor
  .rintro(h | ⟨_,h⟩)
   .omega
   .exact h
  .intro h;exact .inr ⟨rfl,h⟩
 .rw[Y20 e,decide_eq_true_iff,decide_eq_true_iff,List.cons_lt_cons_iff]
  constructor
  .rintro(h | ⟨h,_⟩)
   .exact h
   .exact Y21 h e
  .intro h;exact .inl h
theorem Qlh(l b:Addr)(i f:Array Value)(n T:Nat)(S E:Option Addr)(O I:Array (Option Value))(ns L:List Int)(N:IntsAre i.toList ns)(P:IntsAre f.toList L) :
  Meets (Builtin.«tuple.__lt__» ⟨[.ref l,.ref b],[]⟩)
   (fun A R s=>s.heap.get? l=some { cls:=.type "tuple",dict:=S,data:=.seq i n,slots:=O }/\s.heap.get? b=some { cls:=.type "tuple",dict:=E,data:=.seq f T,slots:=I } /\
    R (.ok (.ret (.bool (decide (ns<L))))) s) :=
 .of_wp fun o w A R s h=>by
  obtain⟨M,g,d,K,J⟩:=s;obtain⟨Q,V,h⟩:=h
  have X:=AutoSeq1.sub_tuple_tuple
  wp_walk using wpAny_loadPart' Q,wpAny_loadPart' V,wpAny_forIn_list _ (fun p b F=>b.1=none/\F=⟨M,g,d,K,J⟩/\∃D C j k c,p=List.zip D C/\IntsAre D j/\IntsAre C k/\D.length+c=i.size/\C.length+c=f.size /\
   R (.ok (.ret (.bool (decide (j<k))))) ⟨M,g,d,K,J⟩) _
  case turn=>
   rintro⟨y,x⟩ p b F ⟨u,rfl,D,C,j,k,c,r,v,m,B,z,q⟩
   cases v with
   |nil=>cases r
   |cons a t v=>
    cases m with
    |nil=>cases r
    |cons a' t' m=>
     rw[List.zip_cons_cons]at r
     injection r with G H
     injection G with U W
     subst U W
     rw[Qur]at q
     rw[zV]at B z
     refine jX (EqAt.int_int a t a' t' o w _ _ ?_)
     by_cases e:a=a'
     .subst e
      rw[Y22 rfl]at q
      rw[beq_self_eq_true]
      wp_walk
      exists rfl,rfl,_,_,_,_,c+1,H,v,m,Om,Om,q
     .rw[Y20 e]at q
      rw[show(a == a')=false from by simpa using e]
      wp_walk using(show qe o w _ (richCompare .Lt (.int a t) (.int a' t')) _ _ _ from lt_int ?_)
      exists 4,q
  case fin=>
   rintro⟨Z,Y⟩ F ⟨u,rfl,D,C,j,k,c,r,v,m,B,z,q⟩
   simp only at u
   subst u
   wp_walk
   exists 4,?_
   have e:decide (j<k)=decide (i.size<f.size):=by
    cases v with
    |nil=>
     cases m with
     |nil=>rw[<-B,<-z,yV (jKf _)];rfl
     |cons a t m=>
      rw[zV]at z
      rw[kJc]at B
      rw[yJ (show i.size<f.size by lia)]
      exact yJ (List.nil_lt_cons _ _)
    |cons a t v=>
     cases m with
     |nil=>
      rw[zV]at B
      rw[kJc]at z
      rw[yV (show ¬i.size<f.size by lia)]
      exact yV (List.not_lt_nil _)
     |cons a' t' m=>rw[List.zip_cons_cons]at r;cases r
   rw[e]at q
   exact q
  case h=>
   exists rfl,rfl,_,_,_,_,0,rfl,N,P,by simp,by simp,h
theorem Qus{items:Array Value}(t:s.heap.IsTuple l items)(B:s.heap.IsTuple b items2)(p:IntsAre items.toList ns)(r:IntsAre items2.toList ms)(z:A.units<cLine)
  (h:Q (.bool (decide (ns<ms))) s):qe prog w A (compareOp .Lt (.ref l) (.ref b)) Q E s:=by
 obtain⟨⟨v,u,o,q⟩,k,m,n,j⟩:=id t
 obtain⟨⟨i,e,f,g⟩,c,a,y,d⟩:=id B
 simp only at m j a d
 subst m j a d
 exact richCompare_meets_room (op:=.Lt) ⟨_,k,rfl⟩ ⟨_,c,rfl⟩ F.slot_tuple_lt F.entry_tuple_lt (F.args_tuple_lt_2 _ _) (Qlh l b items items2 n y u e q g ns ms p r)
  ⟨k,c,show Value.bool (decide (ns<ms))≠Value.notImplemented/\Q (.bool (decide (ns<ms))) s from⟨(fun x=>nomatch x),h⟩⟩ z
theorem Qcc{vs:List Value}(h:IntsAre vs ns)(g:IntsAre vs ms):ns=ms:=by
 induction h generalizing ms with
 |nil=>cases g;rfl
 |cons n t h ih=>
  cases g with
  |cons _ _ h'=>rw[ih h']
theorem Wd:∀{vs:List Value} {ns:List Int},IntsAre vs ns->∀(j:Nat) (h:j<vs.length),∃n t,ns[j]?=some n/\vs[j]=.int n t
 |_,_,.nil,j,h=>by simp at h
 |_,_,.cons n t h',0,h=>⟨n,t,rfl,rfl⟩
 |_,_,.cons n t h',j+1,h=>by
  obtain⟨m,u,b,a⟩:=Wd h' j (by simpa using h)
  exists m,u,by simpa using b,by simpa using a
theorem We:∀{vs:List Value} {ns:List Int},IntsAre vs ns->vs.length=ns.length
 |_,_,.nil=>rfl
 |_,_,.cons n t h=>by rw[zV,zV,We h]
theorem Qnp{items:Array Value}(m:s.heap.IsTuple l items)(r:s.heap.IsTuple b items2)(f:IntsAre items.toList ns)(g:IntsAre items2.toList ms)(C:A.units<cLine) :
  EqAt A s (.ref l) (.ref b) (decide (ns=ms)):=by
 by_cases e:l=b
 .subst e
  obtain⟨o,z,_,n,w⟩:=m
  obtain⟨H,c,_,G,a⟩:=r
  rw[z]at c
  cases c
  rw[w]at a
  injection a with a
  subst a
  rw[yJ (Qcc f g)]
  exact EqAt.same _
 .have E:=We f
  have D:=We g
  rw[jQe]at E D
  have d:=RcAt.tuples (A:=A) (s:=s) (e:=fun j=>decide (ns[j]?=ms[j]?)) m r C fun j i q=>by
   obtain⟨x,t,ex,k⟩:=Wd f j (by rw[jQe];exact i)
   obtain⟨y,u,B,p⟩:=Wd g j (by rw[jQe];exact q)
   rw[Array.getElem_toList]at k p
   rw[k,p,ex,B]
   have:decide (some x=some y)=(x == y):=by
    rw[jXc,decide_eq_true_iff,beq_iff_eq]
    exists fun h=>Y5 h,fun h=>congrArg some h
   rw[this]
   exact EqAt.int_int x t y u
  have v:((List.range (min items.size items2.size)).all (fun j=>decide (ns[j]?=ms[j]?))&&items.size == items2.size)=decide (ns=ms):=by
   rw[jXc,decide_eq_true_iff,wZ,jXe,beq_iff_eq]
   constructor
   .rintro⟨i,q⟩
    refine jYf fun j=>?_
    by_cases F:j<ns.length
    .exact yQ (i j (jXf.mpr Om))
    .rw[wX Om,wX Om]
   .rintro rfl
    exists fun j _=>yJ rfl,Om
  rw[v]at d
  exact EqAt.of_refs e d
abbrev Row:=List Int×Int
def Ja(r q:Row):Bool:=if r.1=q.1 then decide (r.2<q.2)else decide (r.1<q.1)
theorem Qcd{r q:Row}:Ja r q=true↔r.1<q.1\/(r.1=q.1/\r.2<q.2):=by
 unfold Ja
 by_cases e:r.1=q.1
 .rw[Y22 e,decide_eq_true_iff]
  constructor
  .intro h;exact .inr ⟨e,h⟩
  .rintro(h | ⟨_,h⟩)
   .rw[e]at h;exact Y21 h (List.lt_irrefl _)
   .exact h
 .rw[Y20 e,decide_eq_true_iff]
  constructor
  .intro h;exact .inl h
  .rintro(h | ⟨h,_⟩)
   .exact h
   .exact Y21 h e
theorem Qgu(r:Row):Ja r r=false:=by
 rw[<-Bool.not_eq_true,Qcd]
 rintro(h | ⟨_,h⟩)
 .exact Y21 h (List.lt_irrefl _)
 .omega
theorem Qib{a b c:Row}(d:Ja a b=true)(e:Ja b c=true):Ja a c=true:=by
 rw[Qcd]at *
 rcases d with d | ⟨g,d⟩<;>rcases e with e | ⟨f,e⟩
 .exact .inl (List.lt_trans d e)
 .exact .inl (f▸d)
 .exact .inl (g▸e)
 .exact .inr ⟨g.trans f,Om⟩
theorem Qce{a b:Row}(d:Ja a b=false)(c:Ja b a=false):a=b:=by
 rw[<-Bool.not_eq_true,Qcd]at d c
 have e:a.1=b.1:=List.le_antisymm (List.not_lt.mp fun z=>c (.inl z)) (List.not_lt.mp fun z=>d (.inl z))
 have f:a.2=b.2:=by
  have:¬a.2<b.2:=fun z=>d (.inr ⟨e,z⟩)
  have:¬b.2<a.2:=fun z=>c (.inr ⟨e.symm,z⟩)
  lia
 exact Prod.ext e f
def Vy(S:List Row)(x:Row):Int:=((S.countP fun y=>Ja y x:Nat):Int)
theorem Qjr{p q:Row->Bool}{x:Row}:∀{S:List Row},(∀y,p y=true->q y=true)->x∈S->p x=false->q x=true->S.countP p<S.countP q
 |y::S,h,hx,h1,h2=>by
  rw[List.countP_cons,List.countP_cons]
  have a:S.countP p<=S.countP q:=List.countP_mono_left fun z _=>h z
  rcases yK.mp hx with e | hx
  .subst e
   rw[h1,h2]
   simp
   lia
  .have:=Qjr h hx h1 h2
   have:(if p y=true then 1 else 0)<=(if q y=true then 1 else 0):=by
    by_cases e:p y=true
    .rw[Y22 e,Y22 (h y e)];exact jJ _
    .rw[Y20 e];exact jZb _
   lia
theorem Qnq{S:List Row}{x y:Row}(f:x∈S)(d:y∈S):decide (Vy S x<Vy S y)=Ja x y:=by
 have up:∀{a b:Row},a∈S->Ja a b=true->Vy S a<Vy S b:=fun{a b} ha h=>by
  have:=Qjr (p:=fun y=>Ja y a) (q:=fun y=>Ja y b) (fun z g=>Qib g h) ha (Qgu a) h
  unfold Vy
  lia
 cases e:Ja x y with
 |true=>exact yJ (up f e)
 |false=>
  refine yV fun z=>?_
  cases c:Ja y x with
  |true=>have:=up d c;lia
  |false=>rw[Qce e c]at z;lia
def RowIn(h:Heap)(v:Value)(r:Row):Prop:=∃(a b:Addr) (its:Array Value) (t:Tok),v=.ref a/\h.IsTuple a #[.ref b,.int r.2 t]/\h.IsTuple b its/\IntsAre its.toList r.1
theorem Qcf(k:∀b o,h.get? b=some o->h'.get? b=some o){its:Array Value}(z:h.IsTuple a its):h'.IsTuple a its:=by obtain⟨o,e,r⟩:=z;exists o,k _ _ e,r
theorem RowIn.ext(k:∀b o,h.get? b=some o->h'.get? b=some o){v:Value}{r:Row}(z:RowIn h v r):RowIn h' v r:=by
 obtain⟨a,b,c,t,e,g,f,d⟩:=z;exists a,b,c,t,e,Qcf k g,Qcf k f,d
theorem key_lt{x y:Value}{r q:Row}{Q:Bool->Shared->Prop}(C:RowIn s.heap x r)(B:RowIn s.heap y q)(I:A.units+1<cLine)(h:Q (Ja r q) s):qe prog w A (keyLt' (tuples' false) x y) Q E s:=by
 obtain⟨a,b,v,t,rfl,u,k,i⟩:=C
 obtain⟨F,J,l,G,rfl,z,j,g⟩:=B
 obtain⟨o,p,_,n,m⟩:=u
 obtain⟨D,f,_,H,c⟩:=z
 refine kat_lt p m f c (kat_cons (Qnp k j i g Om _ _ _ _ ?_))
 unfold Ja at h
 by_cases e:r.1=q.1
 .rw[Y22 e]at h
  rw[yJ e]
  refine kat_yes (kat_cons (EqAt.int_int _ _ _ _ _ _ _ _ ?_))
  by_cases d:r.2=q.2
  .rw[show(r.2 == q.2)=true by simpa using d]
   refine kat_yes (kat_nil ?_)
   rw[d,yV (Int.lt_irrefl _)]at h
   exact h
  .rw[show(r.2 == q.2)=false by simpa using d]
   exact kat_no (kat_one _ _ (lt_int h))
 .rw[Y20 e]at h
  rw[yV e]
  exact kat_no (kat_one _ _ (Qus k j i g Om h))
theorem Qgv{h:Heap}:∀{vs:List Value} {rs:List Row},Paired (RowIn h) vs rs->∃fs,KatTups h vs fs/\fs.length=vs.length/\∀f∈fs,∃b its,f=.ref b/\h.IsTuple b its
 |_,_,.nil=>⟨[],trivial,rfl,fun f hf=>nomatch hf⟩
 |_,_,.cons z r=>by
  obtain⟨a,b,its,t,rfl,⟨o,i,c,n,g⟩,d,j⟩:=z
  obtain⟨fs,k,l,p⟩:=Qgv r
  exists .ref b::fs,.cons i c g rfl k,by rw[zV,zV,l],fun f hf=>?_
  rcases yK.mp hf with e | hf
  .exact⟨b,its,e,d⟩
  .exact p f hf
theorem Qrb{vs:List Value}{rs:List Row}{Q:SortKind->Shared->Prop}(d:Paired (RowIn s.heap) vs rs)(f:0<vs.length)(h:Q (tuples' false) s):qe prog w A (keyKind' vs.toArray) Q E s:=by
 obtain⟨fs,k,l,p⟩:=Qgv d
 refine kat_kind (T:=.type "tuple") k Om (fun v hv=>?_) Dc h
 obtain⟨b,c,rfl,o,e,a,_⟩:=p v hv
 rw[<-a]
 exact(Looks.ld e).andThen .now
theorem Paired.getR{α β:Type}{R:α->β->Prop}{xs:List α}{ys:List β}(h:Paired R xs ys):∀{i:Nat} {x:α},xs[i]?=some x->∃y,ys[i]?=some y/\R x y:=by
 induction h with
 |nil=>intro i x e;simp at e
 |cons r t ih=>
  intro i x e
  cases i with
  |zero=>simp at e;subst e;exists 4,r
  |succ i=>obtain⟨y,b,a⟩:=ih (i:=i) (by simpa using e);exists y,by simpa using b,a
theorem Paired.pick{α β:Type}{R:α->β->Prop}{xs:List α}{ys:List β}(h:Paired R xs ys)(a:α)(b:β):∀(is:List Nat),(∀i∈is,i<xs.length)->Paired R (is.map fun i=>xs.getD i a) (is.map fun i=>ys.getD i b)
 |[],_=>.nil
 |i::is,hi=>by
  have c:=hi i kZ
  obtain⟨y,d,f⟩:=Paired.getR h (gE c)
  have e:xs.getD i a=xs[i]:=by rw[jY,gE c];rfl
  have k:ys.getD i b=y:=by rw[jY,d];rfl
  refine .cons ?_ (Paired.pick h a b is fun j g=>hi j (yW _ g))
  show R (xs.getD i a) (ys.getD i b)
  rw[e,k];exact f
theorem Qcg{α:Type}(l:List α)(d:α):(List.range l.length).map (fun i=>l.getD i d)=l:=by
 refine jYf fun i=>?_
 rw[jZ]
 by_cases a:i<l.length
 .rw[kXc a,gE a]
  show some (l.getD i d)=_
  rw[jY,gE a];rfl
 .rw[wX (by rw[jXb];lia),wX Om];rfl
theorem Qli{rs:List Row}(d:PermN rs.length p)(up:Qcb (fun i=>Vy rs (rs.getD i ([],0))) p rs.length) :
  (p.toList.map fun i=>rs.getD i ([],0)).Perm rs/\(p.toList.map fun i=>rs.getD i ([],0)).Pairwise fun x y=>Ja y x=false:=by
 have b:p.toList.Perm (List.range rs.length):=by simpa using Array.perm_iff_toList_perm.mp d
 have sz:=d.size
 have e:∀i,i<rs.length->rs.getD i ([],0)∈rs:=fun i a=>by
  rw[jY,gE a];exact jYa a
 constructor
 .have:=b.map (fun i=>rs.getD i ([],0))
  rw[Qcg]at this
  exact this
 .rw[kYe,List.pairwise_iff_getElem]
  intro i j a f c
  rw[jQe]at a f
  have u:=up i j (kQd c) Om
  have k:p.getD i 0=p.toList[i]:=by rw[jJe,Array.getElem?_eq_getElem a];rfl
  have g:p.getD j 0=p.toList[j]:=by rw[jJe,Array.getElem?_eq_getElem f];rfl
  unfold rk at u
  rw[k,g]at u
  dsimp only at u
  have l:p.toList[i]<rs.length:=jXf.mp (b.mem_iff.mp (jYa _))
  have h:p.toList[j]<rs.length:=jXf.mp (b.mem_iff.mp (jYa _))
  rw[<-Qnq (S:=rs) (e _ h) (e _ l)]
  exact yV Om
theorem Qnr{vs:List Value}{rs:List Row}{Q:SortSt->Shared->Prop}(d:Paired (RowIn s.heap) vs rs)(g:2<=vs.length)(e:vs.length<64)(K:A.units+1<cLine)
  (h:∀(st':SortSt) (p:Array Nat),PermN vs.length p->(arrOf st').map (·.2)=List.toArray (p.toList.map fun i=>vs.getD i Value.none)->failedOf st'=none ->
   (p.toList.map fun i=>rs.getD i ([],0)).Perm rs->(p.toList.map fun i=>rs.getD i ([],0)).Pairwise (fun x y=>Ja y x=false)->Q st' s) :
  qe prog w A ((sortRuns').run (SortSt.mk' (tuples' false) (vs.toArray.zip vs.toArray) #[] 7 none)) (fun r s'=>Q r.2 s') E s:=by
 have m:vs.length=rs.length:=Paired.length d
 refine kat_run (G:=fun p s'=>s'=s/\PermN vs.length p/\Qcb (fun i=>Vy rs (rs.getD i ([],0))) p vs.length) rfl g e (fun p st' s' L g D F=>?_) ?_
 .obtain⟨rfl,c,b⟩:=F
  rw[m]at b
  have o:=Qli (m▸c) b
  exact h st' p c (kat_snds rfl g) D o.1 o.2
 .refine kGood.wp (f:=Ki fun i=>Vy rs (rs.getD i ([],0))) (n:=vs.length) (fun i j C t u I=>?_) (fun p H=>⟨rfl,H⟩) _ (Qno Om)
  obtain⟨r,l,v⟩:=Paired.getR d (gE t)
  obtain⟨q,k,z⟩:=Paired.getR d (gE u)
  have J:vs.getD i Value.none=vs[i]:=by rw[jY,gE t];rfl
  have B:vs.getD j Value.none=vs[j]:=by rw[jY,gE u];rfl
  have c:rs.getD i ([],0)=r:=by rw[jY,l];rfl
  have b:rs.getD j ([],0)=q:=by rw[jY,k];rfl
  unfold kas_ask
  rw[J,B]
  refine key_lt v z K ?_
  rw[<-Qnq (S:=rs) (kK l) (kK k)]
  have a:C (decide (Vy rs (rs.getD i ([],0))<Vy rs (rs.getD j ([],0)))) s:=I
  rw[c,b]at a
  exact a
theorem Qns{vs:List Value}{rs:List Row}{P:PySem.Fin->Shared->Prop}(u:s.heap.get? a=some (seqObj "list" vs.toArray n)){h₀:Heap}(ext:∀b o,h₀.get? b=some o->b≠a/\s.heap.get? b=some o)(D:Paired (RowIn h₀) vs rs)
  (B:vs.length<64) (U:A.units+1<cLine)
  (h:∀(p:List Nat),(∀i∈p,i<vs.length)->(p.map fun i=>rs.getD i ([],0)).Perm rs->(p.map fun i=>rs.getD i ([],0)).Pairwise (fun x y=>Ja y x=false) ->
   P (.done (.ret .none)) { s with heap:=sortedHeap s.heap a vs (List.toArray (p.map fun i=>vs.getD i Value.none)) }) :
  qe prog w A (Builtin.«list.sort» ⟨[.ref a],[]⟩) P E s:=by
 have M:vs.length=rs.length:=Paired.length D
 have W:a<(qa s):=zQ u
 obtain⟨l,m⟩:∃l,(s.heap.update a (Obj.mapSeq fun _=>#[])).get? a=some (seqObj "list" #[] l):=⟨_,get?_update_seq u (fun _=>#[])⟩
 have keep:∀b o,h₀.get? b=some o->(((s.heap.update a (Obj.mapSeq fun _=>#[])).push (seqObj "tuple" vs.toArray 0)).push (seqObj "list" #[] 0)).get? b=some o:=fun b o e=>by
  obtain⟨L,l⟩:=ext b o e
  refine jK _ (jK _ ?_)
  rw[Heap.get?_update_ne _ _ _ _ L];exact l
 have q:(((s.heap.update a (Obj.mapSeq fun _=>#[])).push (seqObj "tuple" vs.toArray 0)).push (seqObj "list" #[] 0)).get? a=some (seqObj "list" #[] l):=jK _ (jK _ m)
 have fin:∀(c:SortSt) (g:List Value),(arrOf c).map (·.2)=List.toArray g->failedOf c=none->g.length=vs.length->P (.done (.ret .none)) { s with heap:=sortedHeap s.heap a vs (List.toArray g) } ->
   qe prog w A (do
    let f:=(arrOf c).map (·.2)
    let d:=(← seqEpoch a) != l
    Builtin.List.listUpdate (.ref a) fun _=>f
    if let some e:=failedOf c then rule "list.sort.comparison-raised";throw e
    if d then rule "list.sort.modified";raiseError "ValueError" "list modified during sort"
    ret .none) P E { s with heap:=((s.heap.update a (Obj.mapSeq fun _=>#[])).push (seqObj "tuple" vs.toArray 0)).push (seqObj "list" #[] 0) }:=fun c g C k F v=>by
  dsimp only
  rw[C]
  refine jX (seqEpoch_at q rfl ?_)
  refine jX (listUpdate_at q rfl ?_ (hsz2:=by rw[kX,sizeLine_eq];lia))
  rw[k]
  simp only[bne_self_eq_false,wV,if_false]
  exact kQ v
 rw[list_sort_plain]
 refine jX (listItems_at u rfl ?_)
 refine jX (listUpdate_at u rfl ?_)
 refine jX (seqEpoch_at m rfl ?_)
 refine jX (wpAny_newTuple ?_)
 refine jX (wpAny_newList ?_)
 refine Y30 ?_
 show qe prog w A _ P E { s with heap:=((s.heap.update a (Obj.mapSeq fun _=>#[])).push (seqObj "tuple" vs.toArray 0)).push (seqObj "list" #[] 0) }
 dsimp only
 have R:vs.toArray.size=vs.length:=by simp
 by_cases k:vs.toArray.size<2
 .rw[Y22 k,Y22 k]
  refine jX (kQ ?_)
  rw[StateT.run_pure]
  refine jX (kQ ?_)
  have one:(List.range vs.length).map (fun i=>rs.getD i ([],0))=rs:=by rw[M];exact Qcg _ _
  have o:=h (List.range vs.length) (fun i t=>jXf.mp t) (by rw[one]) (by
   rw[one,List.pairwise_iff_getElem]
   intro i j t V K
   lia)
  rw[Qcg]at o
  refine fin (SortSt.mk' general' (vs.toArray.zip vs.toArray) #[] 7 none) vs ?_ rfl rfl o
  show(vs.toArray.zip vs.toArray).map (·.2)=_
  apply Array.toList_inj.mp
  simp
  exact List.map_snd_zip (jJ _)
 .rw[Y20 k,Y20 k]
  have r:Paired (RowIn (((s.heap.update a (Obj.mapSeq fun _=>#[])).push (seqObj "tuple" vs.toArray 0)).push (seqObj "list" #[] 0))) vs rs:=Paired.imp' (fun _ _ z=>RowIn.ext keep z) D
  refine jX (Qrb (s:={ s with heap:=((s.heap.update a (Obj.mapSeq fun _=>#[])).push (seqObj "tuple" vs.toArray 0)).push (seqObj "list" #[] 0) }) r Om ?_)
  refine jX (Y29 (Qnr (s:={ s with heap:=((s.heap.update a (Obj.mapSeq fun _=>#[])).push (seqObj "tuple" vs.toArray 0)).push (seqObj "list" #[] 0) })
   (Q:=fun c H=>H={ s with heap:=((s.heap.update a (Obj.mapSeq fun _=>#[])).push (seqObj "tuple" vs.toArray 0)).push (seqObj "list" #[] 0) }/\∃p:Array Nat,PermN vs.length p/\(arrOf c).map (·.2)=List.toArray (p.toList.map fun i=>vs.getD i Value.none)/\failedOf c=none /\
    (p.toList.map fun i=>rs.getD i ([],0)).Perm rs/\(p.toList.map fun i=>rs.getD i ([],0)).Pairwise (fun x y=>Ja y x=false))
   r Om B U fun c p C k F v O=>⟨rfl,p,C,k,F,v,O⟩) ?_ fun _ _ e=>e)
  rintro⟨⟨⟩,c⟩ H ⟨rfl,p,G,J,T,N,S⟩
  have I:p.toList.Perm (List.range vs.length):=by simpa using Array.perm_iff_toList_perm.mp G
  refine fin c _ J T (by rw[jQ,jQe,G.size]) (h p.toList (fun i t=>jXf.mp (I.mem_iff.mp t)) N S)
theorem Qic{vs:List Value}{rs:List Row}(g:s.heap.IsList l vs.toArray)(n:Paired (RowIn s.heap) vs rs)(f:vs.length<64)(r:A.units+3<cLine)
  (h:∀(p:List Nat),(∀i∈p,i<vs.length)->(p.map fun i=>rs.getD i ([],0)).Perm rs->(p.map fun i=>rs.getD i ([],0)).Pairwise (fun x y=>Ja y x=false) ->
   Q (.ref ((qa s)+1)) { s with heap:=sortedAll s.heap vs (List.toArray (p.map fun i=>vs.getD i Value.none)) }) :
  qe prog w A (call (.builtin "sorted") [.ref l]) Q E s:=by
 refine Calls.call_function_entry kind_sorted plain_sorted entry_sorted (args_sorted1 _) ?_
 unfold Builtin.«sorted»
 refine jX (m:=checkCount "sorted" 1 1 _) (kQ ?_)
 refine jX (collect_list g ?_)
 refine jX (wpAny_newList ?_)
 have d:((s.heap.push (seqObj "list" #[] 0)).update (qa s) (Obj.mapSeq (· ++ vs.toArray))).objs.size=(qa s)+1:=by
  rw[Heap.size_update,size_push']
 have c:(((s.heap.push (seqObj "list" #[] 0)).update (qa s) (Obj.mapSeq (· ++ vs.toArray))).push (seqObj "list" vs.toArray 0)).get? ((qa s)+1)=some (seqObj "list" vs.toArray 0):=by
  rw[<-d];exact yZ _ rfl
 have keep:∀b o,s.heap.get? b=some o->b≠(qa s)+1/\(((s.heap.push (seqObj "list" #[] 0)).update (qa s) (Obj.mapSeq (· ++ vs.toArray))).push (seqObj "list" vs.toArray 0)).get? b=some o:=fun b o e=>by
  have a:b<(qa s):=zQ e
  exists xQ (Nat.lt_succ_of_lt a),jK _ ?_
  rw[Heap.get?_update_ne _ _ _ _ (xQ a)]
  exact jK _ e
 show wpAny _ _ _ _ _ { s with heap:=((s.heap.push (seqObj "list" #[] 0)).update (qa s) (Obj.mapSeq (· ++ vs.toArray))).push (seqObj "list" vs.toArray 0) }
 rw[d]
 refine jX (Y30 (Y25 slot_list_sort ⟨_,c,rfl⟩ entry_list_sort (Qns (s:={ s with heap:=((s.heap.push (seqObj "list" #[] 0)).update (qa s) (Obj.mapSeq (· ++ vs.toArray))).push (seqObj "list" vs.toArray 0) }) c keep n f (by show A.units+1+1+1<cLine;lia) fun p k j q=>⟨_,rfl,?_⟩) (args_list_sort _)))
 exact kQ ⟨_,rfl,h p k j q⟩
theorem Qjs(I:qI H s){t:Addr}{r:Row}(h:Nb.RowAt X.K H t r):RowIn s.heap (.ref t) r:=by
 obtain⟨p,g,f⟩:=h
 obtain⟨d,i,e,_⟩:=I.tuple g
 obtain⟨a,j,c,_⟩:=I.tuple f
 obtain⟨u,m,rfl,l,b⟩:=Vals.two i
 cases l
 obtain⟨k,rfl⟩:=b
 exists t,p,a.toArray,k,rfl,e,c,intsAre_of j
theorem Qgw(I:qI H s):∀{vs:List V} {us:List Value} {rs:List Row},Vals vs us->Nb.RowsAre X.K H vs rs->Paired (RowIn s.heap) us rs:=by
 intro vs us rs hv h
 unfold Nb.RowsAre at h
 induction h generalizing us with
 |nil=>have e:=hv.nil_iff.mpr rfl;subst e;exact .nil
 |cons z t ih=>
  obtain⟨a,rfl,z⟩:=z
  cases hv with
  |cons ru rr=>
   cases ru
   exact .cons (Qjs I z) (ih rr)
theorem Js(F:X.K=K)(N:X.A.units+6<cLine):Jv X (.builtin "sorted") (fun xs H Q=>∃(l:Addr) (vs:List V) (rs:List Row),xs=[.ref l]/\SqL K H l vs/\Nb.RowsAre K H vs rs/\vs.length<64 /\
  ∀(D:Addr) (ws:List V) (qs:List Row),H D=none->Nb.RowsAre K H ws qs->ws.length=vs.length->qs.Perm rs->qs.Pairwise (fun x y=>Ja y x=false)->Q (.ref D) (upd H D (.lst ws))):=by
 subst F
 intro f s G H xs L Q I w h
 obtain⟨l,vs,rs,rfl,E,c,B,q⟩:=h
 obtain⟨u,rfl,C⟩:=w.one
 cases C
 obtain⟨a,r,p,J⟩:=I.list E
 have g:vs.length=a.length:=r.length
 refine Qic p.isList (Qgw I r c) Om Om fun o k j n=>?_
 obtain⟨e,v⟩:=sortedAll_at s.heap a (List.toArray (o.map fun i=>a.getD i Value.none))
 have m:o.length=vs.length:=by
  have:=j.length_eq
  rw[jQ]at this
  rw[this];exact(Nb.RowsAre.length c).symm
 exists .ref ((qa s)+1),_,I.laid (t':=s.toks) (o:=.lst (o.map fun i=>vs.getD i .non)) (fun b M z=>sortedAll_old z) (kYb _) ⟨by rw[jQ];lia,_,e,?_,v⟩,rfl,q _ _ _ (I.hok.fresh (kYb _)) ?_ (by rw[jQ];exact m) j n
 .exact Paired.pick r .non Value.none o fun i d=>by rw[g];exact k i d
 .exact Paired.pick c .non ([],0) o fun i d=>by rw[g];exact k i d
end L2
variable{q:L2.Row}
namespace L2
open PySem PySem.Spec PyProof.Rows PySem.W
structure Tab(w:World)(K:Frag)(mg:Z9)(x:Str)(a:Addr)(f:Z9):Prop where
 bound:mg x=some (.ref a)
 map:∀(P:Program) (h:Heap),K.In h->h.MapOf (strKind P w) a f
 low:(a == sysModules)=false
theorem Qti{K:Frag}{es:Array DictEntry}(d:mg x=some (.ref a))(b:K.lookup a=some ⟨.type "dict",none,.dict es n,#[]⟩)(c:KeysLit w.params es.toList)(lo:(a == sysModules)=false) :
  Tab w K mg x a (fun k=>findBy Value.isStrOf es k):=⟨d,fun P h X=>mapOf_K (prog:=P) X b c,lo⟩
def rTab(a:Addr)(f:Z9):R2:=fun x y H Q=>∃s v z,x=.ref a/\y=.str s/\f s=some v/\RelV z v/\Q z H
theorem Qnt{f:Z9}{i:Expr}{ti:TE}{p:Pos}(T:Tab X.w X.K X.mg x a f)(j:PE X i ti)(n:qb (Gl X x))(l:qc ((x == ("__debug__":Str))=false)) :
  PC X .NotIn i (.Name x p) (fun σ H Q=>ti σ H fun y H1=>∃s,y=.str s/\Q (.bl (!(f s).isSome)) H1):=by
 intro b s σ H Q I h
 refine thn (j b s σ H _ I h) fun iv s1 ⟨y,H1,I1,ry,z,ey,q1⟩=>thn (Qhp (v:=.ref a) n T.bound rfl l b s1 σ H1 (fun v d=>v=.ref a/\d=H1) I1 ⟨rfl,rfl⟩) fun u q c=>?_
 obtain⟨o,d,e,m,g,k⟩:=c
 subst ey g k
 cases m
 obtain⟨t,rfl⟩:=ry
 exact wpAny_notIn_of (knd:=strKind X.prog X.w) (strKind_is X.prog X.w z t) T.low (T.map X.prog _ e.kIn) ⟨.bl _,d,e.tok _,rfl,q1⟩
theorem Qtj{f:Z9}(T:Tab X.w X.K X.mg x a f):IxR X (rTab a f):=by
 intro c b d s n H x y v u Q I k i h l
 obtain⟨z,m,r,rfl,rfl,j,g,q⟩:=h
 cases k
 obtain⟨t,rfl⟩:=i
 have e:=T.map X.prog _ I.kIn
 exact tail_any e.typeIs slot_dict_getitem.lookup (wpAny_getItem_of (strKind_is X.prog X.w z t) e j ⟨r,H,I.tok _,g,q⟩) l
def TabOk(P:Program)(w:World)(K:Frag)(mg:Z9)(base:Heap)(k:Nat)(f:Z9)(ps:List Str)(sp:Str->Sp):Prop :=
 ∀s v,f s=some v->∃fa fd,v=.ref fa/\FnOk P w K mg base CX0 k fa fd ps (sp s)/\keepIn K (.ref fa)=true/\Binds K fd ps []
theorem Qlj{f:Z9}{i:Expr}{ti:TE}{t:TA}{k:Nat}{ps:List Str}{sp:Str->Sp}{p p2:Pos}(T:Tab X.w X.K X.mg x a f)(O:TabOk X.prog X.w X.K X.mg X.base k f ps sp)(m:Room k X.A)(y:PE X i ti)(o:Qmq i)(M:PA X (e::es) t)
  (u:qb (Gl X x)) (D:qc ((x == ("__debug__":Str))=false)) (B:qb (starEach (e::es) X.env=(false,eval e X.env)::starEach es X.env)) (g:qb ((backTo pos (starEach es X.env)).any (·.1)=false))
  (j:qb (eval (.Call (.Subscript (.Name x p) i p2) (e::es) [] pos) X.env=(do callWith pos (← eval (.Subscript (.Name x p) i p2) X.env) [] (backTo pos (starEach (e::es) X.env)) (backToKw pos (keywordEach [] X.env))))) :
  PE X (.Call (.Subscript (.Name x p) i p2) (e::es) [] pos) (fun σ H Q=>tOp (rTab a f) (tC (.ref a)) ti σ H fun z H1=>∃s fa,z=.ref fa/\f s=some (.ref fa)/\Qud (sp s) [] E0 t σ H1 Q):=by
 intro c s σ H Q I h
 refine Call_ (thn ((Qo (pos:=p2) (Qtj T) (Qhp (pos:=p) (v:=.ref a) u T.bound rfl D) y o) c s σ H _ I h) fun R P d=>?_) j
 obtain⟨z,H1,E,l,J,fa,L,N,q⟩:=d
 subst L
 cases l
 obtain⟨n,S,G,F,C,b⟩:=O J _ N
 cases G
 exact callWith_K (h₀:=X.base) I.ok.mod.kin C (thn (M pos c P σ H1 _ E q) fun us s2 ⟨vs,H2,I2,r,q2⟩=>⟨I2.kIn,Qmm F m b .nil Qmt I2 r q2⟩) B g
theorem Qch(t:X.calm=true):Jv X (.type "set") (fun xs H Q=>∃(l:Addr) (ns:List Int),xs=[.ref l]/\SqL X.K H l (ns.map V.int)/\ns.length<4000/\∀(d:Addr) (S:Int->Bool),H d=none->Q (.ref d) (upd H d (.set S (ns.foldl step_dedup []).length))):=by
 intro f s A H xs E Q I p h
 obtain⟨l,ns,rfl,m,C,q⟩:=h
 obtain⟨u,rfl,y⟩:=p.one
 cases y
 obtain⟨a,r,j,_⟩:=I.list m
 have g:=r.length
 rw[jQ]at g
 have v:(List.range a.toArray.size).map (fun i=>ns.getD i 0)=ns:=by
  rw[kX,<-g]
  apply jYf
  intro i
  by_cases c:i<ns.length
  .rw[jZ,kXc c,gE c]
   show some (ns.getD i 0)=_
   rw[jY,gE c];rfl
  .rw[jYb.mpr (by rw[jQ,jXb];lia),jYb.mpr Om]
 refine call_set_list (I.ok.hd t) j.isList (ns:=ns) (by simpa using intsAre_of r) (by rw[kX];show a.length+1<4096;lia) fun D B z n=>?_
 have w:(firstMet (fun i=>ns.getD i 0) a.toArray.size).length=(ns.foldl step_dedup []).length:=by unfold firstMet;rw[v]
 exists .ref _,_,I.laid (o:=.set (fun x=>(firstMet (fun i=>ns.getD i 0) a.toArray.size).any (· == x)) (ns.foldl step_dedup []).length) (fun b o e=>n b o (zQ e) e) (jJ _) ?_,rfl,q _ _ (I.hok.fresh (jJ _))
 rw[<-w]
 exact z
theorem Wu:Jv X (.builtin "len") (fun xs H Q=>∃(d:Addr) (S:Int->Bool) (n:Nat),xs=[.ref d]/\H d=some (.set S n)/\Q (.int (n:Nat)) H):=by
 intro c s v H xs r Q I e h
 obtain⟨d,S,n,rfl,l,q⟩:=h
 obtain⟨u,rfl,m⟩:=e.one
 cases m
 obtain⟨o,f,p,t,g,b,a,_,_,k,i,j⟩:=I.hok d _ l
 subst j
 refine call_len_set g b a i ?_ ⟨.int _,H,I.tok _,⟨_,rfl⟩,q⟩
 have:f.size<4096:=k
 lia
theorem Qgx:∀{ns:List Int} {us:List Value},IntsAre us ns->Vals (ns.map V.int) us:=by
 intro ns us h
 induction h with
 |nil=>exact .nil
 |cons=>rename_i a;exact .cons ⟨_,rfl⟩ a
theorem Qay{K:Frag}(B:X.K=K):Jv X (.builtin "sorted") (fun xs H Q=>∃(l:Addr) (ns:List Int),xs=[.ref l]/\SqL K H l (ns.map V.int)/\ns.length<64 /\
  ∀(D:Addr) (qs:List Int),H D=none->qs.Perm ns->qs.Pairwise (·<=·)->Q (.ref D) (upd H D (.lst (qs.map V.int)))):=by
 subst B
 intro i s C H xs G Q I v h
 obtain⟨l,ns,rfl,A,w,q⟩:=h
 obtain⟨u,rfl,y⟩:=v.one
 cases y
 obtain⟨f,r,p,F⟩:=I.list A
 have k:=r.length
 rw[jQ]at k
 refine sorted_ints p.isList (intsAre_of r) Om fun d a x j m=>?_
 obtain⟨e,n⟩:=sortedAll_at s.heap f d
 have hv:=Qgx x
 have E:a.length=ns.length:=j.length_eq
 exists"z"
 have c:(a.map V.int).length<=sizeLine:=by rw[jQ];lia
 exists .ref ((qa s)+1),_,I.laid (t':=s.toks) (o:=.lst (a.map V.int)) (fun b J z=>sortedAll_old z) (kYb _) ⟨c,d.toList,e,hv,by simpa using n⟩,rfl,q _ a (I.hok.fresh (kYb _)) j m
theorem Qut:PIp X .Mult (fun x y H Q=>∃i j,x=.int i/\y=.int j/\CMul i j/\Q (.int (i*j)) H):=by
 intro a s g H x y v u Q I d c h
 obtain⟨i,j,b,e,f,q⟩:=h
 subst b;subst e
 obtain⟨t,rfl⟩:=d
 obtain⟨k,rfl⟩:=c
 exact imul_int ⟨.int _,H,I.tok _,⟨_,rfl⟩,q⟩ f.ok
theorem Qtk:bootBuiltins "set"=some (.type "set"):=Dk
theorem bt_str:bootBuiltins "str"=some (.type "str"):=Dk
theorem Qci(ns:List Int):(ns.foldl step_dedup []).length=ns.length↔ns.Nodup:=by
 have g:∀(l b:List Int),(l.foldl step_dedup b).length<=b.length+l.length/\((l.foldl step_dedup b).length=b.length+l.length↔l.Nodup/\∀x∈l,x∉b):=by
  intro l
  induction l with
  |nil=>intro b;exists jJ _,by simp
  |cons a t ih=>
   intro b
   rw[jKb]
   by_cases h:a∈b
   .have e:step_dedup b a=b:=by
     unfold step_dedup
     rw[Y22 (by simpa using h)]
    rw[e]
    obtain⟨i,f⟩:=ih b
    exists by rw[zV];lia,⟨fun z=>by rw[zV]at z;lia,fun z=>Y21 h (z.2 a kZ)⟩
   .have e:step_dedup b a=b++[a]:=by
     unfold step_dedup
     rw[Y20 (by simpa using h)]
    rw[e]
    obtain⟨i,f⟩:=ih (b++[a])
    rw[jV,kJf]at i f
    exists by rw[zV];lia,?_
    rw[zV,show b.length+(t.length+1)=b.length+1+t.length by lia,f,jJc]
    constructor
    .rintro⟨d,c⟩
     exists ⟨fun k=>c a k (by simp),d⟩,fun x hx=>?_
     rcases yK.mp hx with rfl | hx
     .exact h
     .exact fun z=>c x hx (kKb _ z)
    .rintro⟨⟨j,d⟩,c⟩
     exists d,fun x hx z=>?_
     rcases xK.mp z with z | z
     .exact c x (yW _ hx) z
     .have:x=a:=by simpa using z
      exact j (this▸hx)
 have:=(g ns []).2
 simpa using this
theorem Ve(n:Nat):(Builtin.Range.rangeSize ((n:Int)-1) (-1) (-1)).toNat=n:=by
 unfold Builtin.Range.rangeSize
 rw[Y20 Dc]
 split
 .have:(((n:Int)-1)-(-1)-1) / (-(-1))=(n:Int)-1:=by rw[show(-(-1):Int)=1 from rfl,Int.ediv_one];lia
  lia
 .simp;lia
theorem Qgy(h:n<=1000000):Builtin.Range.small ((n:Int)-1) (-1) (-1)=true:=by
 have a:=Ve n
 have b:=Qbz ((n:Int)-1) (-1) (-1) Dc
 unfold Builtin.Range.small
 simp only[Builtin.Range.rangeFitsLong,wZ,jZc,decide_eq_true_eq,beq_iff_eq,show ¬((-1:Int) > 0)by decide,if_false]
 lia
end L2
namespace L2
open PySem PySem.Spec PySem.W PyProof.Rows
open PySem.SeqAt
theorem RowIn.inj{v:Value}{r:Row}(z:RowIn h v r)(y:RowIn h v q):r=q:=by
 obtain⟨a,b,A,t,rfl,⟨o,w,_,n,u⟩,⟨p,x,_,m,B⟩,s⟩:=z
 obtain⟨E,I,k,F,e,⟨D,g,_,H,c⟩,⟨G,i,_,C,d⟩,l⟩:=y
 cases e
 rw[w]at g;cases g
 rw[u]at c
 injection c with c
 injection c with c
 injection c with j f
 injection j with j
 injection f with f _
 injection f with f _
 subst j
 rw[x]at i;cases i
 rw[B]at d
 injection d with d
 subst d
 exact Prod.ext (Qcc s l) f
theorem Quu{x y:Value}{r:Row}(k:RowIn s.heap x r)(f:RowIn s.heap y q)(C:A.units+1<cLine):EqAt A s x y (decide (r=q)):=by
 by_cases e:x=y
 .subst e
  rw[yJ (k.inj f)]
  exact EqAt.same _
 .obtain⟨a,b,o,t,rfl,B,m,D⟩:=k
  obtain⟨E,i,d,g,rfl,v,l,n⟩:=f
  refine EqAt.of_refs (fun z=>e (congrArg Value.ref z)) ?_
  have c:=RcAt.tuples (A:=A) (s:=s) (e:=fun j=>if j=0 then decide (r.1=q.1)else(r.2 == q.2)) B v Om fun j u p=>by
   match j,u,p with
   |0,_,_=>exact Qnp m l D n (by show A.units+1<cLine;exact C)
   |1,_,_=>exact EqAt.int_int _ _ _ _
  have w:((List.range (min (#[Value.ref b,Value.int r.2 t]:Array Value).size (#[Value.ref i,Value.int q.2 g]:Array Value).size)).all (fun j=>if j=0 then decide (r.1=q.1)else(r.2 == q.2))&&(#[Value.ref b,Value.int r.2 t]:Array Value).size == (#[Value.ref i,Value.int q.2 g]:Array Value).size)=decide (r=q):=by
   show((decide (r.1=q.1)&&((r.2 == q.2)&&true))&&true)=_
   rw[jXc,decide_eq_true_iff,Bool.and_true,Bool.and_true,wZ,decide_eq_true_iff,beq_iff_eq]
   exists fun h=>Prod.ext h.1 h.2,fun h=>by rw[h];exact⟨rfl,rfl⟩
  rw[w]at c
  exact c
theorem Qba:fillsNumberSlot (.type "tuple") "mul"=pure false :=
 PySem.fillsNumberSlot_seq (id:="tuple.__mul__") (r:=some (.builtin "tuple.__rmul__")) F.slot_tuple_mul.lookup Dk F.slot_tuple_rmul.lookup Dk
theorem Qgz:seqRepeat? (.type "tuple")=pure (some (.builtin "tuple.__mul__")):=by
 unfold seqRepeat?
 rw[PySem.seqSlot_of (T:="tuple") (name:="__mul__") (id:="tuple.__mul__") F.slot_tuple_mul.lookup Dk,PySem.seqSlot_of (T:="tuple") (name:="__rmul__") (id:="tuple.__rmul__") F.slot_tuple_rmul.lookup Dk]
 rfl
theorem Qde(a:Int)(t:Tok)(l:Addr)(b:Array Value)(n:Nat)(e:Option Addr)(f:Array (Option Value)) :
  Meets (Builtin.«int.__rmul__» ⟨[.int a t,.ref l],[]⟩) (fun _ R s=>s.heap.get? l=some { cls:=.type "tuple",dict:=e,data:=.seq b n,slots:=f }/\R (.ok (.ret Value.notImplemented)) s) :=
 .of_wp fun c w A R s h=>by obtain⟨i,g,d,k,m⟩:=s;obtain⟨j,h⟩:=h;wp_walk;exists 4,h
theorem Qdf(l:Addr)(a:Array Value)(n:Nat)(c:Option Addr)(f:Array (Option Value))(x:Int)(u:Tok)(e:¬((decide (x < -(2 ^ 63))||decide (x≥2 ^ 63))=true))(k:(a.isEmpty||x == 1)=true) :
  Meets (Builtin.«tuple.__mul__» ⟨[.ref l,.int x u],[]⟩) (fun _ R s=>s.heap.get? l=some { cls:=.type "tuple",dict:=c,data:=.seq a n,slots:=f }/\R (.ok (.ret (.ref l))) s) :=
 .of_wp fun b w A R s h=>by
  obtain⟨i,g,d,m,o⟩:=s;obtain⟨j,h⟩:=h
  wp_walk;refine wpAny_ite_false (yV e) ?_;wp_walk
  exists 4,h
theorem Qdg(l:Addr)(a:Array Value)(n:Nat)(c:Option Addr)(f:Array (Option Value))(x:Int)(u:Tok)(e:¬((decide (x < -(2 ^ 63))||decide (x≥2 ^ 63))=true))(o:¬(a.isEmpty||x == 1)=true)(k:(decide (x<=0)||a.isEmpty)=true) :
  Meets (Builtin.«tuple.__mul__» ⟨[.ref l,.int x u],[]⟩) (fun _ R s=>s.heap.get? l=some { cls:=.type "tuple",dict:=c,data:=.seq a n,slots:=f }/\R (.ok (.ret (.ref (qa s)))) { s with heap:=s.heap.push { cls:=.type "tuple",data:=.seq #[] },toks:=s.toks }) :=
 .of_wp fun b w A R s h=>by
  obtain⟨i,g,d,m,p⟩:=s;obtain⟨j,h⟩:=h
  wp_walk;refine wpAny_ite_false (yV e) ?_;wp_walk
  exists 4,h
theorem Qel(l:Addr)(a:Array Value)(n:Nat)(c:Option Addr)(i:Array (Option Value))(x:Int)(u:Tok)(e:¬((decide (x < -(2 ^ 63))||decide (x≥2 ^ 63))=true))(p:¬(a.isEmpty||x == 1)=true)(o:¬(decide (x<=0)||a.isEmpty)=true)
  (f:¬((a.size:Int)*x > (2 ^ 63-1) / 8)) (r:¬Builtin.Tuple.tupleTooMany ((a.size:Int)*x)=true) (k:(List.foldl (fun x1 x2=>x1++x2) #[] (qg x.toNat a)).size<=sizeLine) :
  Meets (Builtin.«tuple.__mul__» ⟨[.ref l,.int x u],[]⟩) (fun _ R s=>s.heap.get? l=some { cls:=.type "tuple",dict:=c,data:=.seq a n,slots:=i }/\R (.ok (.ret (.ref (qa s)))) { s with heap:=s.heap.push { cls:=.type "tuple",data:=.seq (List.foldl (fun x1 x2=>x1++x2) #[] (qg x.toNat a)) },toks:=s.toks }) :=
 .of_wp fun b w A R s h=>by
  obtain⟨j,g,d,q,t⟩:=s;obtain⟨m,h⟩:=h
  wp_walk;refine wpAny_ite_false (yV e) ?_;wp_walk;refine wpAny_ite_false (yV f) ?_;wp_walk
  exists 4,h
def Quv(K:Fg):R2:=fun x y H Q=>∃l k xs,x=.ref l/\y=.int k/\SqT K H l xs/\0<=k/\k<2 ^ 31/\xs.length*k.toNat<=sizeLine /\
 ∀p H',Same H H'->SqT K H' p (qg k.toNat xs).flatten->Q (.ref p) H'
theorem Qem:OpR X (binaryOp .Mult) (Quv X.K):=by
 intro B s σ H x y v u Q I S M h
 obtain⟨l,k,i,rfl,rfl,C,h1,h2,N,q⟩:=h
 cases S
 obtain⟨t,rfl⟩:=M
 obtain⟨its,r,L,Y⟩:=I.tuple C
 have a:its.length=i.length:=r.length.symm
 obtain⟨⟨g,j,aa,e⟩,d,G,n,E⟩:=id L
 simp only at G E
 subst G E
 have A:¬((decide (k < -(2 ^ 63))||decide (k≥2 ^ 63))=true):=by
  rw[jZc,decide_eq_true_iff,decide_eq_true_iff]
  lia
 refine wpAny_binaryOp_repeat_ref (T:="tuple") (U:="int") Dc ⟨_,d,rfl⟩ (fun W=>typeIs_int W k t) Qba F.fills_int_mul F.slot_int_rmul Qgz F.slot_int_index.lookup
  (call_meets F.slot_int_rmul (typeIs_int s k t) F.entry_int_rmul (F.args_int_rmul_2 _ _) (Qde k t l its.toArray n j e)
   ⟨d,rfl,⟨_,d,rfl⟩,?_⟩)
 by_cases g:(its.toArray.isEmpty||k == 1)=true
 .refine call_meets F.slot_tuple_mul ⟨_,d,rfl⟩ F.entry_tuple_mul (F.args_tuple_mul_2 _ _) (Qdf l its.toArray n j e k t A g) ⟨d,?_⟩
  exists .ref l,H,I,rfl,q l H (Same.refl H) ?_
  have:(qg k.toNat i).flatten=i:=by
   rcases(jZc _ _).mp g with c | c
   .have:its=[]:=by simpa using c
    subst this
    have:i=[]:=jYd a.symm
    subst this
    simp
   .have:k=1:=by simpa using c
    subst this
    simp
  rw[this]
  exact C
 .by_cases p:(decide (k<=0)||its.toArray.isEmpty)=true
  .refine call_meets F.slot_tuple_mul ⟨_,d,rfl⟩ F.entry_tuple_mul (F.args_tuple_mul_2 _ _) (Qdg l its.toArray n j e k t A g p) ⟨d,?_⟩
   have O:k=0:=by
    rcases(jZc _ _).mp p with c | c
    .have:=yQ c;lia
    .exact Y21 (by rw[c];rfl) g
   subst O
   exists .ref _,_,I.laid (t':=s.toks) (o:=.tup []) (fun b R q=>jK _ q) (jJ _) ⟨Dc,_,.nil,IsTup.new _ _⟩,rfl,q _ _ (Qb I.fresh _) (Qn upd_same)
  .have J:its.length*k.toNat<=sizeLine:=by rw[a];exact N
   have Z:0<k:=by
    have:¬k<=0:=fun z=>p (by rw[yJ z];rfl)
    lia
   have f:((its.toArray.size:Nat):Int)*k=((its.length*k.toNat:Nat):Int):=by
    rw[kX,Int.natCast_mul]
    congr 1
    lia
   have hs:(sizeLine:Nat)<=(2 ^ 63-1) / 8:=Dc
   have D:∀m:Nat,List.foldl (fun V P=>V++P) #[] (qg m its.toArray)=(qg m its).flatten.toArray:=fun m=>by
    have:=foldl_rep its m []
    rw[List.nil_append]at this
    exact this
   have w:(qg k.toNat its).flatten.length=k.toNat*its.length:=len_rep its k.toNat
   refine call_meets F.slot_tuple_mul ⟨_,d,rfl⟩ F.entry_tuple_mul (F.args_tuple_mul_2 _ _) (Qel l its.toArray n j e k t A g p ?_ ?_ ?_) ⟨d,?_⟩
   .rw[f];lia
   .rw[f]
    unfold Builtin.Tuple.tupleTooMany
    rw[decide_eq_true_iff]
    lia
   .rw[D,kX,w,Nat.mul_comm];exact J
   .rw[D]
    exists .ref _,_,I.laid (t':=s.toks) (o:=.tup (qg k.toNat i).flatten) (fun b R q=>jK _ q) (jJ _) ⟨by rw[len_rep,Nat.mul_comm,<-a];exact J,_,r.rep k.toNat,IsTup.new _ _⟩,rfl,q _ _ (Qb I.fresh _) (Qn upd_same)
theorem Qrc(a:X.K=K):OpR X (binaryOp .Mult) (Quv K):=by subst a;exact Qem
end L2
namespace HT
open PySem PySem.Spec PyProof.Rows
theorem getItem_tuple_whole{t:Addr}{items:Array Value}(b:IsTup s.heap t items)(g:s.heap.IsSliceOf sl vl vu .none)(pl:IsPart vl lo)(k:IsPart vu hi)
  (f:sIx items.size 0 lo=0/\sIx items.size items.size hi=items.size) (h:Q (.ref t) s):qe prog w A (getItem (.ref t) (.ref sl)) Q E s:=by
 obtain⟨j,e,c,i⟩:=id g
 have d:s.TypeIs (.ref sl) "slice":=⟨j,e,c⟩
 unfold getItem
 try with_reducible refine Y30 ?_
 first | refine jX (kQ ?_) | skip
 refine jX (wpAny_sequenceKey b.typeIs Dc ?_)
 refine jX (wpAny_callSpecial?_slot (name:=Str.ofString "__getitem__") b.typeIs PyProof.Rows.slot_tuple_getitem
  (Y25 PyProof.Rows.slot_tuple_getitem b.typeIs entry_tuple_getitem ?_ (args_tuple_getitem _ _)))
 show wpAny _ _ (Builtin.Tuple.tupleItemsOf (.ref t) >>= _) _ _ s
 refine jX (tupleItemsOf_ b ?_)
 refine jX (wpAny_typeOf d ?_)
 rw[Y22 Dc]
 refine jX (Kp g pl k ?_)
 have a:((((sIx items.size 0 lo:Nat):Int) == 0&&(1:Int) == 1&&(sIx items.size items.size hi-sIx items.size 0 lo) == items.size)=true):=by
  rw[f.1,f.2]
  simp
 show wpAny _ _ (if (((sIx items.size 0 lo:Nat):Int) == 0&&(1:Int) == 1&&(sIx items.size items.size hi-sIx items.size 0 lo) == items.size)=true then _ else _) _ _ s
 rw[Y22 a]
 unfold Builtin.Tuple.tupleIsExact
 refine jX (jX (wpAny_typeOf b.typeIs (kQ ?_)))
 rw[Y22 Dc]
 refine jX (wpAny_rule ?_)
 first
  |exact kQ ⟨_,rfl,kQ h⟩
  |exact jX (kQ ⟨_,rfl,kQ h⟩)
  |exact jX (kQ (kQ ⟨_,rfl,kQ h⟩))
end HT
namespace L2
open PySem PySem.Spec PySem.W PyProof.Rows
open PySem.SeqAt
def rSlG(K:Fg):V->Option Int->Option Int->Hp->VK->Prop:=fun x lo hi H Q=>∃a xs,x=.ref a/\SqT K H a xs/\∀p H',Same H H'->SqT K H' p (cutV xs lo hi)->Q (.ref p) H'
theorem Qnu:SlR X (rSlG X.K):=by
 intro c s u H x v z A i g w Q I n m l t h
 obtain⟨a,b,rfl,k,q⟩:=h
 by_cases f:HT.sIx b.length 0 i=0/\HT.sIx b.length b.length g=b.length
 .have e:cutV b i g=b:=by unfold cutV;rw[f.1,f.2];simp
  rw[e]at q
  cases n
  obtain⟨j,r,o,B⟩:=I.tuple k
  have d:j.toArray.size=b.length:=by rw[kX];exact r.length.symm
  exists "tuple",_,PyProof.Rows.slot_tuple_getitem.lookup,o.typeIs,?_
  exact HT.getItem_tuple_whole o m l t (by rw[d];exact f) ⟨.ref a,H,I,rfl,q a H (Same.refl H) k⟩
 .exact Qdj c s u H (.ref a) v z A i g w Q I n m l t ⟨a,b,rfl,k,f,fun p y=>q p _ (Qb y _) (Qn upd_same)⟩
end L2
namespace L2
open PySem
theorem lenS{α:Type}{l:List α}(h:l.length=n+1):∃a t,l=a::t/\t.length=n:=by
 cases l with
 |nil=>exact Y21 h (kZc n).symm
 |cons a t=>exists a,t,rfl,Nat.succ.inj h
theorem len1{α:Type}{l:List α}(h:l.length=1):∃a,l=[a]:=by
 obtain⟨a,t,rfl,b⟩:=lenS h
 exists a,congrArg _ (List.length_eq_zero_iff.mp b)
theorem len2{α:Type}{l:List α}(h:l.length=2):∃a b,l=[a,b]:=by
 obtain⟨a,t,rfl,c⟩:=lenS h
 obtain⟨b,rfl⟩:=len1 c
 exists a,b,rfl
theorem len3{α:Type}{l:List α}(h:l.length=3):∃a b c,l=[a,b,c]:=by
 obtain⟨a,t,rfl,d⟩:=lenS h
 obtain⟨b,c,rfl⟩:=len2 d
 exists a,b,c,rfl
theorem len4{α:Type}{l:List α}(h:l.length=4):∃a b c d,l=[a,b,c,d]:=by
 obtain⟨a,t,rfl,e⟩:=lenS h
 obtain⟨b,c,d,rfl⟩:=len3 e
 exists a,b,c,d,rfl
theorem len5{α:Type}{l:List α}(h:l.length=5):∃a b c d e,l=[a,b,c,d,e]:=by
 obtain⟨a,t,rfl,f⟩:=lenS h
 obtain⟨b,c,d,e,rfl⟩:=len4 f
 exists a,b,c,d,e,rfl
theorem bind1{F:List Value->Prop}(h:∀a,F [a]):∀us:List Value,us.length=1->F us:=fun us b=>by
 obtain⟨a,rfl⟩:=len1 b
 exact h a
theorem Zo{F:List Value->Prop}(h:∀a b,F [a,b]):∀us:List Value,us.length=2->F us:=fun us c=>by
 obtain⟨a,b,rfl⟩:=len2 c
 exact h a b
theorem Qen{F:List Value->Prop}(h:∀a b c,F [a,b,c]):∀us:List Value,us.length=3->F us:=fun us d=>by
 obtain⟨a,b,c,rfl⟩:=len3 d
 exact h a b c
theorem Qbb{F:List Value->Prop}(h:∀a b c d,F [a,b,c,d]):∀us:List Value,us.length=4->F us:=fun us e=>by
 obtain⟨a,b,c,d,rfl⟩:=len4 e
 exact h a b c d
theorem Quw{F:List Value->Prop}(h:∀a b c d e,F [a,b,c,d,e]):∀us:List Value,us.length=5->F us:=fun us f=>by
 obtain⟨a,b,c,d,e,rfl⟩:=len5 f
 exact h a b c d e
theorem Ji{D:Ends}(h:let r3:TS:=s3;let r2:TS:=tSeq s2 r3;tSeq s1 r2 D σ H):(tSeq s1 (tSeq s2 (s3))) D σ H:=h
theorem Jj{D:Ends}(h:let r4:TS:=s4;let r3:TS:=tSeq s3 r4;let r2:TS:=tSeq s2 r3;tSeq s1 r2 D σ H):(tSeq s1 (tSeq s2 (tSeq s3 (s4)))) D σ H:=h
theorem Wv{D:Ends}(h:let r5:TS:=s5;let r4:TS:=tSeq s4 r5;let r3:TS:=tSeq s3 r4;let r2:TS:=tSeq s2 r3;tSeq s1 r2 D σ H):(tSeq s1 (tSeq s2 (tSeq s3 (tSeq s4 (s5))))) D σ H:=h
theorem Qrd{D:Ends}(h:let r6:TS:=s6;let r5:TS:=tSeq s5 r6;let r4:TS:=tSeq s4 r5;let r3:TS:=tSeq s3 r4;let r2:TS:=tSeq s2 r3;tSeq s1 r2 D σ H):(tSeq s1 (tSeq s2 (tSeq s3 (tSeq s4 (tSeq s5 (s6)))))) D σ H:=h
theorem Qeo{s7:TS}{D:Ends}(h:let r7:TS:=s7;let r6:TS:=tSeq s6 r7;let r5:TS:=tSeq s5 r6;let r4:TS:=tSeq s4 r5;let r3:TS:=tSeq s3 r4;let r2:TS:=tSeq s2 r3;tSeq s1 r2 D σ H):(tSeq s1 (tSeq s2 (tSeq s3 (tSeq s4 (tSeq s5 (tSeq s6 (s7))))))) D σ H:=h
theorem Qre{s7 s8 s9:TS}{D:Ends}(h:let r9:TS:=s9;let r8:TS:=tSeq s8 r9;let r7:TS:=tSeq s7 r8;let r6:TS:=tSeq s6 r7;let r5:TS:=tSeq s5 r6;let r4:TS:=tSeq s4 r5;let r3:TS:=tSeq s3 r4;let r2:TS:=tSeq s2 r3;tSeq s1 r2 D σ H):(tSeq s1 (tSeq s2 (tSeq s3 (tSeq s4 (tSeq s5 (tSeq s6 (tSeq s7 (tSeq s8 (s9))))))))) D σ H:=h
end L2
namespace L2
open PySem PySem.Spec PyProof.Rows PySem.SeqAt
theorem op_eqW(W:X.A.units+6<cLine):OpR X (compareOp .Eq) (fun x y H Q=>∃(a b:Addr) (s s':Str) (xs:List V),x=.ref a/\y=.ref b/\SqT X.K H a (.str s::xs)/\SqT X.K H b [.str s']/\∀c:Bool,(c=true↔(s=s'/\xs=[]))->Q (.bl c) H):=by
 intro C L T H x y v u Q I R M h
 obtain⟨a,b,s,s',xs,rfl,rfl,m,l,q⟩:=h
 cases R
 cases M
 obtain⟨f,r,pt,_⟩:=I.tuple m
 obtain⟨d,B,t,_⟩:=I.tuple l
 have S:=r.length
 have P:=B.length
 obtain⟨U,F,z⟩:=r.get (i:=0) (x:=.str s) rfl
 obtain⟨Y,G,n⟩:=B.get (i:=0) (x:=.str s') rfl
 obtain⟨E,rfl⟩:=z
 obtain⟨D,rfl⟩:=n
 have w:f.length=xs.length+1:=by rw[<-S];rfl
 have p:d.length=1:=by rw[<-P];rfl
 have o:∀j (m:j<f.toArray.size) (l:j<d.toArray.size),EqAt X.A.in1 L f.toArray[j] d.toArray[j] (s == s'):=fun j m l=>by
  rw[kX]at m l
  have O:j=0:=Om
  subst O
  have k:f.toArray[0]=.str s E:=by rw[gE Om]at F;simpa using F
  have g:d.toArray[0]=.str s' D:=by rw[gE Om]at G;simpa using G
  rw[k,g]
  exact EqAt.str_str s E s' D
 have J:=RcAt.tuples (A:=X.A) pt t Om (e:=fun _=>s == s') o
 refine J _ _ _ _ ⟨.bl _,H,I,rfl,q _ ?_⟩
 rw[wZ,Wn,kX,kX,w,p]
 constructor
 .rintro⟨k,g⟩
  have N:xs.length+1=1:=eq_of_beq g
  exists eq_of_beq (k 0 Om),jYd Om
 .rintro⟨k,g⟩
  subst k g
  exists fun _ _=>beq_self_eq_true _,rfl
theorem Xw{α β:Type}{R:α->β->Prop}{xs:List α}{ys:List β}(h:Paired R xs ys):∀{i:Nat} {x:α},xs[i]?=some x->∃y,ys[i]?=some y/\R x y:=by
 induction h with
 |nil=>intro i x e;exact nomatch e
 |cons z _ ih=>
  intro i x e
  match i with
  |0=>cases e;exists 4,z
  |i+1=>exact ih (show _=some x from e)
end L2
namespace Nb
open PySem L2
def top(i:Nat):Stmt:=PySem.Challenge.pw_nonebetter_k71_whole_papers_carried_over.main.body.getD i (.Pass ⟨0,0,0,0⟩)
abbrev Qbe:Stmt:=top 1
abbrev Qjt:Stmt:=top 2
abbrev Qep:Stmt:=top 3
abbrev Qbf:Stmt:=top 19
abbrev Qeq:Stmt:=top 20
abbrev Qer:Stmt:=top 21
inductive Dt
 |non
 |bl (b:Bool)
 |int (i:Int)
 |str (s:Str)
 |tup (xs:List Dt)
 |lst (xs:List Dt)
inductive HasT (K:Fg) (H:Hp):V->Dt->Prop
 |non:HasT K H .non .non
 |bl (b:_):HasT K H (.bl b) (.bl b)
 |int (i:_):HasT K H (.int i) (.int i)
 |str (s:_):HasT K H (.str s) (.str s)
 |tup {a vs xs:_}:SqT K H a vs->vs.length=xs.length->(∀(i:Nat) v x,vs[i]?=some v->xs[i]?=some x->HasT K H v x)->HasT K H (.ref a) (.tup xs)
 |lst {a vs xs:_}:SqL K H a vs->vs.length=xs.length->(∀(i:Nat) v x,vs[i]?=some v->xs[i]?=some x->HasT K H v x)->HasT K H (.ref a) (.lst xs)
theorem HasT.same(e:Same H H'){x:V}{d:Dt}(h:HasT K H x d):HasT K H' x d:=by
 induction h with
 |non=>exact .non
 |bl b=>exact .bl b
 |int i=>exact .int i
 |str s=>exact .str s
 |tup h1 h2 _ ih=>exact .tup (e.tup h1) h2 ih
 |lst h1 h2 _ ih=>exact .lst (e.seq h1) h2 ih
theorem HasT.tup_inv{xs:List Dt}(h:HasT K H v (.tup xs)):∃a vs,v=.ref a/\SqT K H a vs/\vs.length=xs.length/\∀(i:Nat) v x,vs[i]?=some v->xs[i]?=some x->HasT K H v x:=by
 cases h with | tup h1 h2 h3=>exists _,4,h1,h2,h3
theorem HasT.lst_inv{xs:List Dt}(h:HasT K H v (.lst xs)):∃a vs,v=.ref a/\SqL K H a vs/\vs.length=xs.length/\∀(i:Nat) v x,vs[i]?=some v->xs[i]?=some x->HasT K H v x:=by
 cases h with | lst h1 h2 h3=>exists _,4,h1,h2,h3
theorem HasT.pair_inv{d e:Dt}(h:HasT K H v (.tup [d,e])):∃a x y,v=.ref a/\SqT K H a [x,y]/\HasT K H x d/\HasT K H y e:=by
 obtain⟨a,f,rfl,g,c,b⟩:=h.tup_inv
 obtain⟨x,y,rfl⟩:=len2 (l:=f) c
 exists a,x,y,rfl,g,b 0 x d rfl rfl,b 1 y e rfl rfl
theorem HasT.isi{d:Dt}(h:HasT K H v d)(T:String):isiW K H v T (match d with | .non=>false | .int _=>decide (T="int") | .bl _=>decide (T="int"\/T="bool") | .str _=>decide (T="str") | .tup _=>decide (T="tuple") | .lst _=>decide (T="list")):=by
 cases h with
 |non=>rfl
 |bl b=>rfl
 |int i=>rfl
 |str s=>rfl
 |tup h1=>exact .inl ⟨⟨_,h1⟩,rfl⟩
 |lst h1=>exact .inr ⟨⟨_,h1⟩,rfl⟩
def wholeT:Dt->Bool
 |.int _=>true
 |_=>false
def numT(n:Nat):Dt->Option Nat
 |.int i=>if 0<=i/\i<(n:Int)then some i.toNat else none
 |_=>none
def Qid:Dt->Bool
 |.tup [_,_]=>true
 |_=>false
def Ku(n:Nat):Dt->Option (Int×Int)
 |.tup [d,e]=>match numT n d,numT 2 e with
  |some k,some w=>some (((k:Nat):Int),((w:Nat):Int))
  |_,_=>none
 |_=>none
def allT{α:Type}(f:Dt->Option α):List Dt->Option (List α)
 |[]=>some []
 |d::r=>match f d,allT f r with
  |some x,some t=>some (x::t)
  |_,_=>none
theorem Kj{α:Type}(f:Dt->Option α)(a:List Dt):(allT f a).isSome=a.all fun d=>(f d).isSome:=by
 induction a with
 |nil=>rfl
 |cons d r ih=>
  show(match f d,allT f r with | some x,some t=>some (x::t) | _,_=>none).isSome=_
  rw[List.all_cons,<-ih]
  cases f d<;>cases allT f r<;>rfl
theorem Qnv{α:Type}{f:Dt->Option α}{d:Dt}{r:List Dt}{xs:List α}(h:allT f (d::r)=some xs):∃x t,f d=some x/\allT f r=some t/\xs=x::t:=by
 have a:(match f d,allT f r with | some x,some t=>some (x::t) | _,_=>none)=some xs:=h
 cases b:f d with
 |none=>rw[b]at a;cases a
 |some x=>
  cases c:allT f r with
  |none=>rw[b,c]at a;cases a
  |some t=>
   rw[b,c]at a
   cases a
   exists x,t,rfl,rfl,rfl
theorem Jl{α:Type}{f:Dt->Option α}:∀{ds:List Dt} {xs:List α},allT f ds=some xs->xs.length=ds.length/\∀(i:Nat) d,ds[i]?=some d->∃x,xs[i]?=some x/\f d=some x:=by
 intro ds
 induction ds with
 |nil=>intro xs h;cases h;exists rfl,fun i d e=>by simp at e
 |cons d r ih=>
  intro xs h
  have a:(match f d,allT f r with | some x,some t=>some (x::t) | _,_=>none)=some xs:=h
  cases b:f d with
  |none=>rw[b]at a;cases a
  |some x=>
   cases c:allT f r with
   |none=>rw[b,c]at a;cases a
   |some t=>
    rw[b,c]at a
    cases a
    obtain⟨l,g⟩:=ih c
    exists by rw[zV,zV,l],fun i m e=>?_
    cases i with
    |zero=>simp at e;subst e;exists x,rfl,b
    |succ i=>obtain⟨y,j,k⟩:=g i m (by simpa using e);exists y,by simpa using j,k
def Qcj(n:Nat)(xs:List Dt):Option (List (Int×Int)):=(allT (Ku n) xs).bind fun hs=>if (hs.map (·.1)).Nodup then some hs else none
def Je(n:Nat):Dt->Option (List (Int×Int))
 |.lst xs=>Qcj n xs
 |_=>none
def Qie(n:Nat)(xs:List Dt):Option (List Nat):=(allT (numT n) xs).bind fun t=>if t.Nodup/\t.length=n then some t else none
def Ww(n:Nat):Dt->Option (List Nat)
 |.lst xs=>Qie n xs
 |_=>none
def lenT:Dt->Nat
 |.lst xs=>xs.length
 |_=>0
inductive Vf(K:Fg)(vs:List V)(H:Hp)(Q:VK)(E:XK):Prop|mk(v:V)(d:Dt)(_:vs=[v])(_:HasT K H v d)(_:Q (.bl (wholeT d)) H):Vf K vs H Q E
inductive Vg(K:Fg)(vs:List V)(H:Hp)(Q:VK)(E:XK):Prop|mk(v:V)(d:Dt)(n:Nat)(_:vs=[v,.int (n:Int)])(_:HasT K H v d)(_:Q (.bl (numT n d).isSome) H):Vg K vs H Q E
inductive Qes(K:Fg)(vs:List V)(H:Hp)(Q:VK)(E:XK):Prop|mk(v:V)(d:Dt)(_:vs=[v])(_:HasT K H v d)(_:Q (.bl (Qid d)) H):Qes K vs H Q E
def nmT{α:Type}(told:List (Option α))(d:Dt):Option Nat:=(numT told.length d).bind fun k=>if (told.getD k none).isSome=true then some k else none
def ptT{α:Type}(told:List (Option α)):Dt->Option (Nat×Int)
 |.tup [d,.int m]=>if 0<=m then(nmT told d).map fun k=>(k,m)else none
 |_=>none
def TNon{α:Type}(ws:List V)(told:List (Option α)):Prop:=ws.length=told.length/\∀(i:Nat) w,ws[i]?=some w->(w=.non↔(told.getD i none).isSome=false)
inductive Vh(K:Fg)(vs:List V)(H:Hp)(Q:VK)(E:XK):Prop|mk(v:V)(d:Dt)(l:Addr)(ws:List V)(told:List (Option (List Int×Int)))(_:vs=[v,.ref l])(_:HasT K H v d)(_:SqL K H l ws)(_:TNon ws told)(_:Q (.bl (nmT told d).isSome) H):Vh K vs H Q E
inductive Qju(K:Fg)(vs:List V)(H:Hp)(Q:VK)(E:XK):Prop|mk(v:V)(d:Dt)(l:Addr)(ws:List V)(told:List (Option (List Int×Int)))(_:vs=[v,.ref l])(_:HasT K H v d)(_:SqL K H l ws)(_:TNon ws told)(_:Q (.bl (ptT told d).isSome) H):Qju K vs H Q E
inductive Qjv(K:Fg)(vs:List V)(H:Hp)(Q:VK)(E:XK):Prop|mk(v:V)(d:Dt)(n:Nat)(_:vs=[v,.int (n:Int)])(_:HasT K H v d)(_:Q (.bl (Ku n d).isSome) H):Qjv K vs H Q E
inductive Qdo(K:Fg)(vs:List V)(H:Hp)(Q:VK)(E:XK):Prop|mk(v:V)(d:Dt)(n:Nat)(_:vs=[v,.int (n:Int)])(_:HasT K H v d)(_:lenT d<1000)(_:∀H',Same H H'->Q (.bl (Je n d).isSome) H'):Qdo K vs H Q E
inductive Qjw(K:Fg)(vs:List V)(H:Hp)(Q:VK)(E:XK):Prop|mk(v:V)(d:Dt)(n:Nat)(_:vs=[v,.int (n:Int)])(_:HasT K H v d)(_:lenT d<64)(_:n<1000)(_:∀H',Same H H'->Q (.bl (Ww n d).isSome) H'):Qjw K vs H Q E
theorem Qlk{d:Dt}{p:Int×Int}(h:Ku n d=some p):∃e f,d=.tup [e,f]/\e=.int p.1/\f=.int p.2/\0<=p.1/\p.1<(n:Int)/\(p.2=0\/p.2=1):=by
 unfold Ku at h
 split at h
 .rename_i d e
  cases a:numT n d with
  |none=>rw[a]at h;cases h
  |some k=>
   cases b:numT 2 e with
   |none=>rw[a,b]at h;cases h
   |some w=>
    rw[a,b]at h
    cases h
    unfold numT at a b
    split at a
    .rename_i i
     split at a
     .rename_i g
      cases a
      split at b
      .rename_i j
       split at b
       .rename_i c
        cases b
        exists _,4,?_,?_,?_,?_,?_
        .show Dt.int i=Dt.int ((i.toNat:Nat):Int);congr 1;lia
        .show Dt.int j=Dt.int ((j.toNat:Nat):Int);congr 1;lia
        .show 0<=((i.toNat:Nat):Int);lia
        .show((i.toNat:Nat):Int)<n;lia
        .show((j.toNat:Nat):Int)=0\/((j.toNat:Nat):Int)=1;have:j<((2:Nat):Int):=c.2;lia
       .cases b
      .cases b
     .cases a
    .cases a
 .cases h
theorem Zb{d:Dt}{k:Nat}(h:numT n d=some k):d=.int ((k:Nat):Int)/\k<n:=by
 unfold numT at h
 split at h
 .rename_i i
  split at h
  .rename_i a
   cases h
   exists by congr 1;lia,Om
  .cases h
 .cases h
theorem Kk{α:Type}{told:List (Option α)}{d:Dt}{k:Nat}(h:nmT told d=some k):d=.int ((k:Nat):Int)/\k<told.length/\(told.getD k none).isSome=true:=by
 obtain⟨j,f,a⟩:=wQ.mp h
 obtain⟨b,e⟩:=Zb f
 by_cases c:(told.getD j none).isSome=true
 .rw[Y22 c]at a;cases a;exists b,e,c
 .rw[Y20 c]at a;cases a
theorem Qet{α:Type}{told:List (Option α)}{d:Dt}{p:Nat×Int}(h:ptT told d=some p):d=.tup [.int ((p.1:Nat):Int),.int p.2]/\(p.1<told.length/\(told.getD p.1 none).isSome=true)/\0<=p.2:=by
 unfold ptT at h
 split at h
 .rename_i d m
  split at h
  .rename_i b
   obtain⟨k,e,rfl⟩:=zY.mp h
   obtain⟨c,a⟩:=Kk e
   exists by rw[c],a,b
  .cases h
 .cases h
theorem Sc{a b:List Str}{c:Scope}(h:FnScope a b c:=by exact ⟨rfl,rfl,rfl,Dk,rfl,Dk,Dk⟩):FnScope a b c:=h
theorem Qnw:FnScope ["thing"] ["thing"] (Qf Qbe):=Sc
theorem Qnx(F:Fn K mg "is_whole" Qbe)(M:Mg mg):qC 1 "is_whole" ["thing"] (Vf K):=by
 refine Xf F Qnw (fun _ _ _ _ _ _=>bind1 (fun _=>rfl)) (fun e H Q E h=>?_) (fun f c A a s H e Q E g h=>?_)
 .obtain⟨v,d,rfl,_⟩:=h
  rfl
 obtain⟨v,d,rfl,hv,q⟩:=h
 exists _,(Qh (Qp (Jo (Qk Xn rfl M.isinstance Qx (Qa (pv 0) (Qa (Jh M.int_ Vc) Qc))) (Vx (Qsz (Qk Xn rfl M.isinstance Qx (Qa (pv 0) (Qa (Jh M.bool_ Qed) Qc)))))))),?_
 cases d with
 |int i=>exists 4,_,"int",4,.int,hv.isi _,true,rfl,iteT ⟨_,rfl,_,"bool",_,rfl,.bool,hv.isi _,false,rfl,q⟩
 |bl b=>exists 4,_,"int",4,.int,hv.isi _,true,rfl,iteT ⟨_,rfl,_,"bool",_,rfl,.bool,hv.isi _,true,rfl,q⟩
 |non=>exists 4,_,"int",4,.int,hv.isi _,false,rfl,iteF q
 |str s=>exists 4,_,"int",4,.int,hv.isi _,false,rfl,iteF q
 |tup xs=>exists 4,_,"int",4,.int,hv.isi _,false,rfl,iteF q
 |lst xs=>exists 4,_,"int",4,.int,hv.isi _,false,rfl,iteF q
theorem Qux:FnScope ["thing","count"] ["thing","count"] (Qf Qjt):=Sc
theorem Quy(F:Fn K mg "is_number_of" Qjt)(M:Mg mg)(a:qC 1 "is_whole" ["thing"] (Vf K)):qC 2 "is_number_of" ["thing","count"] (Vg K):=by
 refine Xf F Qux (fun _ _ _ _ _ _=>Zo (fun _ _=>rfl)) (fun l H Q E h=>?_) (fun f k A g s H l Q E m h=>?_)
 .obtain⟨v,d,n,rfl,_⟩:=h
  rfl
 obtain⟨v,d,n,rfl,hv,q⟩:=h
 exists _,(Qh (Qp (Jo (Xc a (m.mono Dc) (Qa (pv 0) Qc)) (Vx (Qqh op_le Qft Qe (pv 0) (pv 1)))))),?_
 cases d with
 |int i=>
  cases hv
  exists 4,_,4,.int i,true,rfl,iteT ⟨_,rfl,_,_,rfl,rfl,_,rfl,ite2 (fun c=>⟨_,rfl,_,_,rfl,rfl,?_⟩) (fun c=>?_)⟩
  .have j:0<=i:=yQ c
   by_cases h:i<(n:Int)
   .have e:numT n (.int i)=some i.toNat:=Y22 ⟨j,h⟩
    rw[e]at q
    show Q (.bl (decide (i<(n:Int)))) H
    rw[yJ h]
    exact q
   .have e:numT n (.int i)=none:=Y20 fun z=>h z.2
    rw[e]at q
    show Q (.bl (decide (i<(n:Int)))) H
    rw[yV h]
    exact q
  .have j:¬0<=i:=fun z=>c (yJ z)
   have e:numT n (.int i)=none:=Y20 fun z=>j z.1
   rw[e]at q
   exact q
 |non=>exists 4,_,4,hv,false,rfl,iteF q
 |bl b=>exists 4,_,4,hv,false,rfl,iteF q
 |str s=>exists 4,_,4,hv,false,rfl,iteF q
 |tup xs=>exists 4,_,4,hv,false,rfl,iteF q
 |lst xs=>exists 4,_,4,hv,false,rfl,iteF q
theorem Qrf:FnScope ["thing"] ["thing"] (Qf Qep):=Sc
theorem Qrg(F:Fn K mg "is_pair" Qep)(M:Mg mg):qC 1 "is_pair" ["thing"] (Qes K):=by
 refine Xf F Qrf (fun _ _ _ _ _ _=>bind1 (fun _=>rfl)) (fun e H Q E h=>?_) (fun f g A c s H e Q E l h=>?_)
 .obtain⟨v,d,rfl,_⟩:=h
  rfl
 obtain⟨v,d,rfl,hv,q⟩:=h
 exists _,(Qh (Qp (Jo (Qk Xn rfl M.isinstance Qx (Qa (pv 0) (Qa (Jh M.tuple_ Xp) Qc))) (Vx (Xz Yh (qL (pv 0)) Qe (Qs _)))))),?_
 cases d with
 |tup xs=>
  obtain⟨a,e,rfl,k,j,m⟩:=hv.tup_inv
  exists 4,_,"tuple",4,.tuple,hv.isi _,true,rfl,iteT ⟨_,rfl,a,_,rfl,.inr k,rfl,?_⟩
  rw[j]
  match xs,q with
  |[],q=>exact q
  |[_],q=>exact q
  |[_,_],q=>exact q
  |_::_::_::r,q=>
   rw[yV (fun z=>by have:=V.int.inj z;simp at this;lia)]
   exact q
 |int i=>exists 4,_,"tuple",4,.tuple,hv.isi _,false,rfl,iteF q
 |non=>exists 4,_,"tuple",4,.tuple,hv.isi _,false,rfl,iteF q
 |bl b=>exists 4,_,"tuple",4,.tuple,hv.isi _,false,rfl,iteF q
 |str s=>exists 4,_,"tuple",4,.tuple,hv.isi _,false,rfl,iteF q
 |lst xs=>exists 4,_,"tuple",4,.tuple,hv.isi _,false,rfl,iteF q
theorem Qny:FnScope ["thing","told"] ["thing","told"] (Qf Qbf):=Sc
theorem Qnz(F:Fn K mg "is_ahead" Qbf)(M:Mg mg)(a:qC 2 "is_number_of" ["thing","count"] (Vg K)):qC 3 "is_ahead" ["thing","told"] (Vh K):=by
 refine Xf F Qny (fun _ _ _ _ _ _=>Zo (fun _ _=>rfl)) (fun t H Q E h=>?_) (fun f r A m s H t Q E u h=>?_)
 .obtain⟨v,d,l,j,b,rfl,_⟩:=h
  rfl
 obtain⟨v,d,l,j,b,rfl,hv,o,g,q⟩:=h
 exists _,(Qh (Qp (Jo (Xc a (u.mono Dc) (Qa (pv 0) (Qa (qL (pv 1)) Qc))) (Vx (Xz Qdx (Qo ix_list (pv 1) (pv 0)) Xh (Qs _)))))),?_
 exists 4,4,l,4,.inl o,v,d,j.length,rfl,hv,?_
 cases e:numT j.length d with
 |none=>unfold nmT at q;rw[<-g.1,e]at q;exists false,rfl,iteF q
 |some k=>
  unfold nmT at q
  rw[<-g.1,e]at q
  obtain⟨rfl,n⟩:=Zb e
  cases hv
  have p:=g.2 k _ (gE n)
  exists true,rfl,iteT ⟨_,rfl,_,rfl,l,_,_,_,rfl,rfl,o,Yy (gE n),rfl,?_⟩
  have i:Q (.bl (if (b.getD k none).isSome=true then some k else none).isSome) H:=q
  by_cases c:(b.getD k none).isSome=true
  .rw[Y22 c]at i
   rw[yV (fun z=>by rw[p.mp z]at c;cases c)]
   exact i
  .rw[Y20 c]at i
   rw[yJ (p.mpr (by simpa using c))]
   exact i
theorem Qrh:FnScope ["thing","told"] ["thing","told"] (Qf Qeq):=Sc
theorem Qri(F:Fn K mg "is_part" Qeq)(M:Mg mg)(j:qC 1 "is_pair" ["thing"] (Qes K))(i:qC 3 "is_ahead" ["thing","told"] (Vh K))(g:qC 1 "is_whole" ["thing"] (Vf K)):qC 4 "is_part" ["thing","told"] (Qju K):=by
 refine Xf F Qrh (fun _ _ _ _ _ _=>Zo (fun _ _=>rfl)) (fun J H Q E h=>?_) (fun f N A t s H J Q E u h=>?_)
 .obtain⟨v,d,l,I,c,rfl,_⟩:=h
  rfl
 obtain⟨v,d,l,I,c,rfl,hv,L,z,q⟩:=h
 exists _,(Qh (Qp (Jo (Xc j (u.mono Dc) (Qa (pv 0) Qc)) (Jo (Xc i (u.mono Dc) (Qa (Qo Qm (pv 0) Qe) (Qa (pv 1) Qc))) (Jo (Xc g (u.mono Dc) (Qa (Qo Qm (pv 0) Qe) Qc)) (Vx (Xz Qfu (Qo Qm (pv 0) Qe) Qe (Qs _)))))))),?_
 exists 4,v,d,rfl,hv,?_
 cases p:Qid d with
 |false=>
  have e:ptT c d=none:=by
   unfold ptT
   split
   .simp[Qid]at p
   .rfl
  rw[e]at q
  exists false,rfl,iteF q
 |true=>
  obtain⟨n,o,rfl⟩:∃n o,d=.tup [n,o]:=by
   unfold Qid at p
   split at p
   .exact⟨_,_,rfl⟩
   .cases p
  obtain⟨a,x,y,rfl,B,O,D⟩:=hv.pair_inv
  exists true,rfl,iteT ⟨_,rfl,a,_,_,_,rfl,rfl,B,at0,_,rfl,x,n,l,I,c,rfl,O,L,z,?_⟩
  cases G:nmT c n with
  |none=>
   have e:ptT c (.tup [n,o])=none:=by
    unfold ptT
    split
    .rename_i C
     cases C
     rw[G]
     split<;>rfl
    .rfl
   rw[e]at q
   exists false,rfl,iteF q
  |some k=>
   exists true,rfl,iteT ⟨_,rfl,a,_,_,_,rfl,rfl,B,at1,y,o,rfl,D,?_⟩
   cases o with
   |int m=>
    cases D
    exists true,rfl,iteT ⟨_,rfl,a,_,_,_,rfl,rfl,B,at1,_,_,rfl,rfl,?_⟩
    have e:ptT c (.tup [n,.int m])=if 0<=m then some (k,m)else none:=by
     show(if 0<=m then(nmT c n).map fun k=>(k,m)else none)=_
     rw[G];rfl
    rw[e]at q
    by_cases r:0<=m
    .rw[Y22 r]at q
     show Q (.bl (decide (0<=m))) H
     rw[yJ r]
     exact q
    .rw[Y20 r]at q
     show Q (.bl (decide (0<=m))) H
     rw[yV r]
     exact q
   |non=>exists false,rfl,iteF q
   |bl b=>exists false,rfl,iteF q
   |str s=>exists false,rfl,iteF q
   |tup xs=>exists false,rfl,iteF q
   |lst xs=>exists false,rfl,iteF q
theorem Qrj:FnScope ["thing","count"] ["thing","count"] (Qf Qer):=Sc
theorem Qrk(F:Fn K mg "is_hold" Qer)(M:Mg mg)(c:qC 1 "is_pair" ["thing"] (Qes K))(b:qC 2 "is_number_of" ["thing","count"] (Vg K)):qC 3 "is_hold" ["thing","count"] (Qjv K):=by
 refine Xf F Qrj (fun _ _ _ _ _ _=>Zo (fun _ _=>rfl)) (fun u H Q E h=>?_) (fun f t A l s H u Q E m h=>?_)
 .obtain⟨v,d,n,rfl,_⟩:=h
  rfl
 obtain⟨v,d,n,rfl,hv,q⟩:=h
 exists _,(Qh (Qp (Jo (Xc c (m.mono Dc) (Qa (pv 0) Qc)) (Jo (Xc b (m.mono Dc) (Qa (Qo Qm (pv 0) Qe) (Qa (pv 1) Qc))) (Vx (Xc b (m.mono Dc) (Qa (Qo Qm (pv 0) Qe) (Qa Qe Qc)))))))),?_
 exists 4,v,d,rfl,hv,?_
 cases j:Qid d with
 |false=>
  have e:Ku n d=none:=by
   unfold Ku
   split
   .simp[Qid]at j
   .rfl
  rw[e]at q
  exists false,rfl,iteF q
 |true=>
  obtain⟨g,i,rfl⟩:∃g i,d=.tup [g,i]:=by
   unfold Qid at j
   split at j
   .exact⟨_,_,rfl⟩
   .cases j
  obtain⟨a,x,y,rfl,p,z,B⟩:=hv.pair_inv
  have e:Ku n (.tup [g,i])=match numT n g,numT 2 i with
   |some k,some w=>some (((k:Nat):Int),((w:Nat):Int))
   |_,_=>none:=rfl
  rw[e]at q
  exists true,rfl,iteT ⟨_,rfl,a,_,_,_,rfl,rfl,p,at0,_,rfl,x,g,n,rfl,z,?_⟩
  cases o:numT n g with
  |none=>
   rw[o]at q
   exists false,rfl,iteF q
  |some k=>
   rw[o]at q
   exists true,rfl,iteT ⟨_,rfl,a,_,_,_,rfl,rfl,p,at1,y,i,2,rfl,B,?_⟩
   cases r:numT 2 i with
   |none=>rw[r]at q;exact q
   |some w=>rw[r]at q;exact q
abbrev Qeu:Stmt:=top 7
abbrev Qoa:Stmt:=top 15
def Qll(o:Option V)(n:Int):Int:=match o with
 |none=>if 0<n then n else 0
 |some (.int z)=>z*n
 |some _=>0
def Vz(d:List (Key×V))(ns:List Int)(i:Nat):Int:=((List.range i).map fun j=>Qll (valV d (Sum.inl ((j:Nat):Int))) (ns.getD j 0)).sum
theorem Qif(d:List (Key×V)){n:Int}(e:ns[i]?=some n):Vz d ns (i+1)=Vz d ns i+Qll (valV d (Sum.inl ((i:Nat):Int))) n:=by
 unfold Vz
 have a:ns.getD i 0=n:=by rw[jY,e];rfl
 rw[jZd,kY,List.sum_append,xX,kYa,List.sum_cons,List.sum_nil,a]
 lia
def Qob(d:List (Key×V)):Prop:=∀k,valV d k=none\/valV d k=some (.int 0)\/valV d k=some (.int 1)
def dOf(hs:List (Int×Int)):List (Key×V):=Yv (hs.map fun p=>(p.1,V.int p.2))
theorem Qig(a:List (Int×Int))(b:∀p∈a,p.2=0\/p.2=1):∀d:List (Key×V),Qob d->Qob ((a.map fun p=>(p.1,V.int p.2)).foldl (fun d p=>putK d (Sum.inl p.1) p.2) d):=by
 induction a with
 |nil=>intro d h;exact h
 |cons p r ih=>
  intro d h
  refine ih (fun q c=>b q (yW _ c)) _ fun k=>?_
  rw[Wp]
  by_cases e:k=Sum.inl p.1
  .rw[Y22 e]
   rcases b p (kZ ..)with z | z
   .exact .inr (.inl (congrArg (fun y=>some (V.int y)) z))
   .exact .inr (.inr (congrArg (fun y=>some (V.int y)) z))
  .rw[Y20 e];exact h k
theorem Qoc(a:∀p∈hs,p.2=0\/p.2=1):Qob (dOf hs):=Qig hs a [] fun _=>.inl rfl
def HoldsAt(K:Fg)(H:Hp)(l:Addr)(hs:List (Int×Int)):Prop:=∃vs,SqL K H l vs/\PairsAre K H vs (hs.map fun p=>(p.1,V.int p.2))
theorem PairsAre.same(e:Same H H')(h:PairsAre K H vs ps):PairsAre K H' vs ps:=L2.PairsAre.imp (fun _ _ z=>e.tup z) h
theorem PairsAre.upd{D:Addr}(a:H D=some (.lst ys))(h:PairsAre K H vs ps):PairsAre K (upd H D (.lst zs)) vs ps:=L2.PairsAre.imp (fun _ _ z=>Xv a z) h
theorem HoldsAt.same(e:Same H H')(h:HoldsAt K H l hs):HoldsAt K H' l hs:=by obtain⟨a,c,b⟩:=h;exists a,e.seq c,PairsAre.same e b
inductive Qtl(K:Fg)(vs:List V)(H:Hp)(Q:VK)(E:XK):Prop|mk(t l:Addr)(r:List Int×Int)(hs:List (Int×Int))(_:vs=[.ref t,.ref l])(_:RowAt K H t r)(_:HoldsAt K H l hs)(_:hs.length<=1000)(_:(∀p∈hs,p.2=0\/p.2=1))(_:∀H',Same H H'->Q (.int (Vz (dOf hs) r.1 r.1.length)) H'):Qtl K vs H Q E
abbrev Part:=(List Int×Int)×Int
def addPart(a:List Int×Int)(p:Part):List Int×Int:=(List.zipWith (fun x y=>x+p.2*y) a.1 p.1.1,a.2+p.2*p.1.2)
def Yq(n:Nat)(ps:List Part):List Int×Int:=ps.foldl addPart (qg n 0,0)
theorem Qih(n:Nat){ps:List Part}{p:Part}(h:ps[i]?=some p):Yq n (ps.take (i+1))=addPart (Yq n (ps.take i)) p:=by
 rw[Zh h];unfold Yq;rw[jZa];rfl
theorem Qrl(ps:List Part):∀(a:List Int×Int),(∀p∈ps,p.1.1.length=a.1.length)->(ps.foldl addPart a).1.length=a.1.length:=by
 induction ps with
 |nil=>intro a _;rfl
 |cons p t ih=>
  intro a h
  have c:=h p kZ
  have e:(addPart a p).1.length=a.1.length:=by show(List.zipWith _ _ _).length=_;rw[yQa];lia
  rw[jKb,ih _ (fun q b=>by rw[e];exact h q (yW _ b)),e]
theorem Qam(n:Nat)(ps:List Part)(h:∀p∈ps,p.1.1.length=n):(Yq n ps).1.length=n:=by
 have:=Qrl ps (qg n 0,0) (fun p a=>by rw[h p a];exact(zZ ..).symm)
 unfold Yq
 rw[this]
 exact zZ ..
theorem rep0(n:Nat):(qg n [V.int 0]).flatten=(qg n (0:Int)).map V.int:=by
 induction n with
 |zero=>rfl
 |succ n ih=>rw[jYc,kQb,ih,jYc,xX];rfl
theorem Quz{f:Int->Int->Int}{n m:Int}(b:ns[i]?=some n)(a:ms[i]?=some m):(List.zipWith f ns ms)[i]?=some (f n m):=by
 rw[List.getElem?_zipWith,b,a]
def Kl(K:Fg)(H:Hp)(vs:List V)(ps:List Part):Prop:=vs.length=ps.length/\∀(i:Nat) (v:V) (p:Part),vs[i]?=some v->ps[i]?=some p->∃T t,v=.ref T/\SqT K H T [.ref t,.int p.2]/\RowAt K H t p.1
inductive spSum(K:Fg)(vs:List V)(H:Hp)(Q:VK)(E:XK):Prop|mk(l:Addr)(us:List V)(ps:List Part)(n:Nat)(_:vs=[.int (n:Int),.ref l])(_:SqL K H l us)(_:Kl K H us ps)(_:n<=1000)(_:(∀p∈ps,p.1.1.length=n/\-(2 ^ 64)<p.2/\p.2<2 ^ 64))(_:∀t H',Same H H'->RowAt K H' t (Yq n ps)->Q (.ref t) H'):spSum K vs H Q E
def addF(o:Option Int)(x:Int):Int:=match o with
 |none=>if 0<x then x else 0
 |some w=>w*x
def hv(hs:List (Int×Int))(j:Nat):Option Int:=(hs.find? fun p=>p.1 == (j:Int)).map (·.2)
def setF(f:Nat->Option Int)(c:Nat)(w:Int):Nat->Option Int:=fun j=>if j=c then some w else f j
def sumN(n:Nat)(g:Nat->Int):Int:=((List.range n).map g).sum
theorem Qck(n:Nat)(g:Nat->Int):sumN (n+1) g=sumN n g+g n:=by
 unfold sumN
 rw[jZd,kY,List.sum_append,xX,kYa,List.sum_cons,List.sum_nil]
 lia
theorem Qan{g h:Nat->Int}(e:∀j,j<n->g j=h j):sumN n g=sumN n h:=by
 unfold sumN
 exact congrArg List.sum (jJd fun j a=>e j (jXf.mp a))
theorem Qdp{g h:Nat->Int}(d:c<n)(e:∀j,j≠c->g j=h j):sumN n g=sumN n h+(g c-h c):=by
 induction n with
 |zero=>lia
 |succ n ih=>
  rw[Qck,Qck]
  by_cases a:c<n
  .rw[ih a,e n Om];lia
  .have:c=n:=Om
   subst this
   rw[Qan (g:=g) (h:=h) fun j b=>e j Om]
   lia
theorem sum_filter(p:Nat->Bool)(g:Nat->Int)(n:Nat):(((List.range n).filter p).map g).sum=sumN n fun k=>if p k=true then g k else 0:=by
 induction n with
 |zero=>rfl
 |succ n ih=>
  rw[Qck,jZd,kXf,kY,List.sum_append,ih]
  by_cases h:p n=true
  .rw[Y22 h,kZd h];simp
  .rw[Y20 h,kZe h];simp
def roomF(n:Nat)(f:Nat->Option Int)(r:List Int×Int):Int:=sumN n (fun j=>addF (f j) (r.1.getD j 0))-r.2
theorem Qod{f:Nat->Option Int}{w:Int}(b:c<n)(d:f c=none):roomF n (setF f c w) r=roomF n f r+(w*r.1.getD c 0-addF none (r.1.getD c 0)):=by
 unfold roomF
 rw[Qdp (n:=n) (c:=c) (g:=fun j=>addF (setF f c w j) (r.1.getD j 0)) (h:=fun j=>addF (f j) (r.1.getD j 0)) b fun j a=>by simp only[setF,Y20 a]]
 simp only[setF,if_true,d]
 show _+(w*r.1.getD c 0-addF none (r.1.getD c 0))-r.2=_
 lia
structure Good(n:Nat)(hs:List (Int×Int)):Prop where
 nd:(hs.map (·.1)).Nodup
 ok:∀p∈hs,0<=p.1/\p.1<(n:Int)/\(p.2=0\/p.2=1)
theorem Qii(p:Int×Int)(t:List (Int×Int))(j:Nat):hv (p::t) j=if p.1=(j:Int)then some p.2 else hv t j:=by
 unfold hv
 rw[jZe]
 by_cases h:p.1=(j:Int)
 .rw[Y22 h,show(p.1 == (j:Int))=true from beq_iff_eq.mpr h];rfl
 .rw[Y20 h,show(p.1 == (j:Int))=false from beq_eq_false_iff_ne.mpr h]
theorem hv_none:hv hs j=none↔(j:Int)∉hs.map (·.1):=by
 induction hs with
 |nil=>simp[hv]
 |cons p t ih=>
  rw[Qii]
  by_cases h:p.1=(j:Int)
  .rw[Y22 h];simp[h]
  .rw[Y20 h,ih]
   simp only[xX,yK,not_or]
   exists fun z=>⟨fun e=>h e.symm,z⟩,fun z=>z.2
def Qoe(r:List Int×Int)(hs:List (Int×Int)):Int :=
 (hs.map fun p=>r.1.getD p.1.toNat 0*p.2).sum+(((List.range r.1.length).filter fun(k:Nat)=>!decide ((k:Int)∈hs.map (·.1))).map fun(k:Nat)=>addF none (r.1.getD k 0)).sum-r.2
theorem Qrm:∀{hs:List (Int×Int)},Good r.1.length hs->Qoe r hs=roomF r.1.length (hv hs) r:=by
 intro hs
 induction hs with
 |nil=>
  intro _
  unfold Qoe roomF
  rw[sum_filter]
  show 0+_-r.2=_
  rw[Qan (h:=fun j=>addF (hv [] j) (r.1.getD j 0)) fun j _=>by simp[hv]]
  lia
 |cons p t ih=>
  intro h
  have a:=jJc.mp (show(p.1::t.map (·.1)).Nodup from h.nd)
  have w:Good r.1.length t:=⟨a.2,fun q m=>h.ok q (yW _ m)⟩
  obtain⟨y,x,A⟩:=h.ok p kZ
  have d:p.1.toNat<r.1.length:=Om
  have b:((p.1.toNat:Nat):Int)=p.1:=Om
  have v:hv t p.1.toNat=none:=hv_none.mpr (by rw[b];exact a.1)
  have l:hv (p::t)=setF (hv t) p.1.toNat p.2:=by
   funext j
   rw[Qii]
   unfold setF
   by_cases e:j=p.1.toNat
   .rw[Y22 e,Y22 Om]
   .rw[Y20 e,Y20 Om]
  rw[l,Qod d v,<-ih w]
  unfold Qoe
  rw[sum_filter,sum_filter]
  have s:=Qdp (n:=r.1.length) (c:=p.1.toNat) (g:=fun k=>if (!decide ((k:Int)∈(p::t).map (·.1)))=true then addF none (r.1.getD k 0)else 0) (h:=fun k=>if (!decide ((k:Int)∈t.map (·.1)))=true then addF none (r.1.getD k 0)else 0) d (fun j B=>by
   have f:¬(j:Int)=p.1:=Om
   have i:decide ((j:Int)∈(p::t).map (·.1))=decide ((j:Int)∈t.map (·.1)):=by
    apply decide_eq_decide.mpr
    rw[xX,yK]
    exists fun z=>z.resolve_left f,.inr
   show(if (!decide ((j:Int)∈(p::t).map (·.1)))=true then _ else _)=_
   rw[i])
  rw[s]
  have o:(!decide (((p.1.toNat:Nat):Int)∈(p::t).map (·.1)))=false:=by rw[b];simp
  have u:(!decide (((p.1.toNat:Nat):Int)∈t.map (·.1)))=true:=by rw[b];simpa using a.1
  simp only[o,u,if_true,wV,if_false]
  rw[xX,List.sum_cons,Int.mul_comm (r.1.getD p.1.toNat 0) p.2]
  lia
theorem Qlm{xs:List Dt}:(Je n (.lst xs)).isSome=true↔∃hs,allT (Ku n) xs=some hs/\(hs.map (·.1)).Nodup:=by
 show(Qcj n xs).isSome=true↔_
 unfold Qcj
 cases e:allT (Ku n) xs with
 |none=>exists (fun z=>nomatch z),fun⟨_,a,_⟩=>nomatch a
 |some hs=>
  show(if (hs.map (·.1)).Nodup then some hs else none).isSome=true↔_
  by_cases h:(hs.map (·.1)).Nodup
  .rw[Y22 h];exists fun _=>⟨hs,rfl,h⟩,fun _=>rfl
  .rw[Y20 h];exists (fun z=>nomatch z),fun⟨c,a,b⟩=>by cases a;exact Y21 b h
theorem Qij{xs:List Dt}(h:allT (Ku n) xs=none):Je n (.lst xs)=none:=by
 show Qcj n xs=none
 unfold Qcj;rw[h];rfl
theorem Qln{xs:List Dt}(h:allT (numT n) xs=none):Ww n (.lst xs)=none:=by
 show Qie n xs=none
 unfold Qie;rw[h];rfl
theorem Qlo{xs:List Dt}(h:allT (numT n) xs=some t):(Ww n (.lst xs)).isSome=true↔t.Nodup/\t.length=n:=by
 show(Qie n xs).isSome=true↔_
 unfold Qie
 rw[h]
 show(if t.Nodup/\t.length=n then some t else none).isSome=true↔_
 by_cases a:t.Nodup/\t.length=n
 .rw[Y22 a];exists fun _=>a,fun _=>rfl
 .rw[Y20 a];exists (fun z=>nomatch z),fun z=>Y21 z a
theorem Qcl{α:Type}{o:Option α}{b:Bool}(h:b=true↔o.isSome=true):b=o.isSome:=by
 cases b<;>cases o<;>simp_all
theorem Qev:∀{l1 l2:List Int},l1.Perm l2->l1.Pairwise (·<=·)->l2.Pairwise (·<=·)->l1=l2:=by
 intro l1
 induction l1 with
 |nil=>intro l2 h _ _;exact h.nil_eq
 |cons a t ih=>
  intro l2 h g i
  cases l2 with
  |nil=>exact Y21 h.length_eq (by simp)
  |cons b u=>
   have f:a=b:=by
    have k:a∈b::u:=h.mem_iff.mp kZ
    have j:b∈a::t:=h.mem_iff.mpr kZ
    have c:=jKc.mp g
    have d:=jKc.mp i
    rcases yK.mp k with e | e
    .exact e
    .rcases yK.mp j with e' | e'
     .exact e'.symm
     .have:=d.1 a e;have:=c.1 b e';lia
   subst f
   rw[ih (List.Perm.cons_inv h) (jKc.mp g).2 (jKc.mp i).2]
def Wx(n:Nat):List Int:=(List.range n).map fun i=>((i:Nat):Int)
theorem Qew(n:Nat):(Wx n).Pairwise (·<=·):=by
 unfold Wx
 rw[kYe]
 exact List.Pairwise.imp (fun h=>Om) List.pairwise_lt_range
theorem Kr(g:∀k∈t,k<n)(c:t.Nodup)(b:t.length=n):t.Perm (List.range n):=by
 have i:∀(n:Nat) (t:List Nat),(∀k∈t,k<n)->t.Nodup->t.length=n->∀k,k<n->k∈t:=by
  intro n
  induction n with
  |zero=>intro t _ _ _ k r;lia
  |succ n ih=>
   intro t g c b k r
   by_cases l:n∈t
   ·have v:=ih (t.erase n) (fun j a=>by
      have s:=g j (kKa a)
      have w:j≠n:=fun e=>by rw[e]at a;exact(List.Nodup.not_mem_erase c) a
      lia) (c.erase n) (by rw[List.length_erase_of_mem l];lia)
    by_cases q:k=n
    .rw[q];exact l
    .exact kKa (v k Om)
   .exfalso
    have p:∀j∈t,j<n:=fun j a=>by
     have:=g j a
     have:j≠n:=fun e=>l (e▸a)
     lia
    have:∀(m:Nat) (u:List Nat),(∀j∈u,j<m)->u.Nodup->u.length<=m:=by
     intro m
     induction m with
     |zero=>
      intro u o _
      cases u with
      |nil=>exact jJ _
      |cons x _=>exact Y21 (o x kZ) (Nat.not_lt_zero _)
     |succ m ihm=>
      intro u o d
      have:=ihm (u.erase m) (fun j a=>by
       have s:=o j (kKa a)
       have w:j≠m:=fun e=>by rw[e]at a;exact(List.Nodup.not_mem_erase d) a
       lia) (d.erase m)
      by_cases f:m∈u
      .rw[List.length_erase_of_mem f]at this
       lia
      .rw[List.erase_of_not_mem f]at this;lia
    have:=this n t p c
    lia
 refine(List.perm_ext_iff_of_nodup c List.nodup_range).mpr fun k=>?_
 rw[jXf]
 exists fun h=>g k h,i n t g c b k
theorem Qcm(c:∀k∈t,k<n){qs:List Int}(a:qs.Perm (t.map fun(k:Nat)=>(k:Int)))(f:qs.Pairwise (·<=·)):qs=Wx n↔t.Nodup/\t.length=n:=by
 constructor
 .intro e
  rw[e]at a
  have b:(t.map fun(k:Nat)=>(k:Int)).Nodup:=a.nodup_iff.mp (by
   unfold Wx
   exact kYe.mpr (List.Pairwise.imp (fun h=>Om) List.nodup_range))
  exists List.Pairwise.imp (fun h e=>h (by rw[e])) (kYe.mp b),?_
  have:=a.length_eq
  unfold Wx at this
  rw[jQ,jQ,jXb]at this
  exact this.symm
 .rintro⟨b,d⟩
  exact Qev (a.trans ((Kr c b d).map _)) f (Qew n)
theorem Qha{xs:List Dt}(o:vs.length=xs.length)(h:∀(i:Nat) v x,vs[i]?=some v->xs[i]?=some x->HasT K H v x)(e:allT (numT n) xs=some t):vs=(t.map fun(k:Nat)=>(k:Int)).map V.int/\(∀k∈t,k<n):=by
 obtain⟨m,g⟩:=Jl e
 exists ?_,fun k l=>?_
 .apply jYf
  intro i
  by_cases c:i<vs.length
  .obtain⟨x,ex⟩:∃x,xs[i]?=some x:=⟨_,gE Om⟩
   obtain⟨k,d,f⟩:=g i x ex
   obtain⟨rfl,_⟩:=Zb f
   have:=h i _ _ (gE c) ex
   rw[gE c,jZ,jZ,d]
   cases hv:vs[i]with
   |int j=>rw[hv]at this;cases this;rfl
   |non=>rw[hv]at this;cases this
   |bl b=>rw[hv]at this;cases this
   |str s=>rw[hv]at this;cases this
   |ref a=>rw[hv]at this;cases this
   |byt _=>rw[hv]at this;cases this
   |flt _=>rw[hv]at this;cases this
   |ty _=>rw[hv]at this;cases this
  .rw[jYb.mpr Om,jYb.mpr (by rw[jQ,jQ];lia)]
 .obtain⟨i,c,rfl⟩:=jJb.mp l
  obtain⟨x,ex⟩:∃x,xs[i]?=some x:=⟨_,gE Om⟩
  obtain⟨p,d,f⟩:=g i x ex
  rw[gE c]at d
  cases d
  exact(Zb f).2
theorem Qdq{xs:List Dt}(a:vs.length=xs.length)(h:∀(i:Nat) v x,vs[i]?=some v->xs[i]?=some x->HasT K H v x)(e:allT (Ku n) xs=some hs):PairsAre K H vs (hs.map fun p=>(p.1,V.int p.2))/\∀p∈hs,0<=p.1/\p.1<(n:Int)/\(p.2=0\/p.2=1):=by
 induction xs generalizing vs hs with
 |nil=>
  cases e
  have:vs=[]:=jYd (by simpa using a)
  subst this
  exists .nil,fun p hp=>nomatch hp
 |cons d r ih=>
  obtain⟨x,t,k,o,rfl⟩:=Qnv e
  cases vs with
  |nil=>simp at a
  |cons v u=>
   obtain⟨A,f⟩:=ih (vs:=u) (by simpa using a) (fun i w y m l=>h (i+1) w y (by simpa using m) (by simpa using l)) o
   obtain⟨C,D,rfl,rfl,rfl,z,g,c⟩:=Qlk k
   have hv:=h 0 v _ rfl rfl
   obtain⟨s,B,E,rfl,j,b,q⟩:=hv.pair_inv
   cases b
   cases q
   exists .cons ⟨s,rfl,j⟩ A,fun p hp=>?_
   rcases yK.mp hp with rfl | hp
   .exact⟨z,g,c⟩
   .exact f p hp
def Yk(n c:Nat)(x l:Int):List Int×Int:=((qg n 0).set c x,l)
def Vi(cs:List Int)(b:Int):List Int×Int:=(cs.map fun c=>-c,1-b)
def Vp(r:List Int×Int)(b:Int):List Int×Int:=(r.1.map fun x=>-((-x).fdiv b),-((-r.2).fdiv b))
def Yd(n:Nat)(hs:List (Int×Int)):List Int:=hs.foldl (fun a p=>a.set p.1.toNat (1-2*p.2)) (qg n 0)
def Jq(hs:List (Int×Int)):Int:=hs.foldl (fun z p=>z-p.2) 1
def Jw(n:Nat)(hs:List (Int×Int)):List Int×Int:=(Yd n hs,Jq hs)
def Xi(ns:List Int)(c:Nat):List Int:=ns.take c++[0]++ns.drop (c+1)
def Ke(one other:List Int×Int)(c:Nat):List Int×Int:=(Xi one.1 c,if other.2<one.2-one.1.getD c 0 then other.2 else one.2-one.1.getD c 0)
def Qjx(t:List Nat)(a:List Int×Int)(c:Nat):List Int×Int :=
 let a1:=a.1.set c (a.1.getD c 0+a.2)
 (a1.set (t.getD c 0) (a1.getD (t.getD c 0) 0-a.2),a.2*2)
def Jt(t:List Nat)(k:Nat):List Int×Int:=((List.range k).map fun i=>t.length-1-i).foldl (Qjx t) (qg t.length 0,1)
def Vj(t:List Nat):List Int×Int:=((Jt t t.length).1,0)
theorem Wf(t:List Nat)(k:Nat):Jt t (k+1)=Qjx t (Jt t k) (t.length-1-k):=by
 unfold Jt
 rw[jZd,kY,jZa]
 rfl
theorem Qao(t:List Nat)(k:Nat):(Jt t k).1.length=t.length:=by
 induction k with
 |zero=>exact zZ ..
 |succ k ih=>
  rw[Wf]
  show((_:List Int).set _ _).length=_
  rw[jQb,jQb,ih]
inductive Qex(K:Fg)(vs:List V)(H:Hp)(Q:VK)(E:XK):Prop|mk(n c:Nat)(x l:Int)(_:vs=[.int (n:Int),.int (c:Int),.int x,.int l])(_:c<n)(_:n<=1000)(_:∀t H',Same H H'->RowAt K H' t (Yk n c x l)->Q (.ref t) H'):Qex K vs H Q E
inductive Qjy(K:Fg)(vs:List V)(H:Hp)(Q:VK)(E:XK):Prop|mk(t:Addr)(rs:List (List Int×Int))(cs:List Int)(b:Int)(_:vs=[.ref t,.int b])(_:ProbAt K H t rs cs)(_:cs.length<=1000)(_:∀t' H',Same H H'->RowAt K H' t' (Vi cs b)->Q (.ref t') H'):Qjy K vs H Q E
inductive Qof(K:Fg)(vs:List V)(H:Hp)(Q:VK)(E:XK):Prop|mk(t:Addr)(r:List Int×Int)(b:Int)(_:vs=[.ref t,.int b])(_:RowAt K H t r)(_:r.1.length<=1000)(_:0<b)(_:Big b)(_:∀t' H',Same H H'->RowAt K H' t' (Vp r b)->Q (.ref t') H'):Qof K vs H Q E
inductive Qhb(K:Fg)(vs:List V)(H:Hp)(Q:VK)(E:XK):Prop|mk(l:Addr)(n:Nat)(hs:List (Int×Int))(_:vs=[.int (n:Int),.ref l])(_:HoldsAt K H l hs)(_:(∀p∈hs,0<=p.1/\p.1<(n:Int)/\(p.2=0\/p.2=1)))(_:n<=1000)(_:∀t' H',Same H H'->RowAt K H' t' (Jw n hs)->Q (.ref t') H'):Qhb K vs H Q E
inductive Qcn(K:Fg)(vs:List V)(H:Hp)(Q:VK)(E:XK):Prop|mk(t:Addr)(r:List Int×Int)(c:Nat)(_:vs=[.ref t,.int (c:Int)])(_:RowAt K H t r)(_:r.1.length<=1000)(_:c<r.1.length)(_:∀p H',Same H H'->SqT K H' p ((Xi r.1 c).map V.int)->Q (.ref p) H'):Qcn K vs H Q E
inductive Qco(K:Fg)(vs:List V)(H:Hp)(Q:VK)(E:XK):Prop|mk(t1 t2:Addr)(r1 r2:List Int×Int)(c:Nat)(_:vs=[.ref t1,.ref t2,.int (c:Int)])(_:RowAt K H t1 r1)(_:RowAt K H t2 r2)(_:r1.1.length<=1000)(_:c<r1.1.length)(_:∀t' H',Same H H'->RowAt K H' t' (Ke r1 r2 c)->Q (.ref t') H'):Qco K vs H Q E
inductive Qhc(K:Fg)(vs:List V)(H:Hp)(Q:VK)(E:XK):Prop|mk(l:Addr)(t:List Nat)(_:vs=[.ref l])(_:SqL K H l ((t.map fun(k:Nat)=>(k:Int)).map V.int))(_:t.length<=1000)(_:(∀k∈t,k<t.length))(_:∀t' H',Same H H'->RowAt K H' t' (Vj t)->Q (.ref t') H'):Qhc K vs H Q E
theorem set_map(ns:List Int)(k:Nat)(x:Int):(ns.map V.int).set k (V.int x)=(ns.set k x).map V.int:=by rw[kXa]
theorem Qcp{t:Addr}{z:Int}(h:upd H l (.tup (ns.map V.int)) t=none):RowAt K (upd (upd H l (.tup (ns.map V.int))) t (.tup [.ref l,.int z])) t (ns,z):=⟨l,Qn upd_same,Qn (by rw[Qj (Qi upd_same h)];exact upd_same)⟩
theorem scSumRow:FnScope ["count","parts","numbers","least","row","many"] ["count","parts"] (Qf Qeu):=Sc
theorem Qrn(F:Fn K mg "sum_row" Qeu)(M:Mg mg):qC 1 "sum_row" ["count","parts"] (spSum K):=by
 refine Xf F scSumRow (a:=fun f ak A Z s H vs Q E hr h=>?_)
 obtain⟨l,X,B,n,rfl,hl,ac,hn,z,q⟩:=h
 refine⟨_,(Qd (Z4 2 scSumRow.nd (Qu Vb (Xo (Qa Qe Qc)) (pv 0)))
  (Qd (Z4 3 scSumRow.nd Qe)
  (Qd (Yo PassesOwn.never rfl (Xq (pv 1)) (Qta rfl (Vm (Z3 4 scSumRow.nd) (Vm (Z3 5 scSumRow.nd) Qhq))) (Qd (Qui (i:=2) ["number","more","many"] [none,none,some 5] rfl scSumRow.nd rfl (inl rfl) (Qmz true false rfl M.zip_ (Qa (pv 2) (Qa (Qo Qm (pv 4) Qe) Qc))) (fun _ _ _=>(Yb (K:=K) (i:=0) (j:=1) rfl rfl (show(["number","more","many"]:List Str).Nodup by decide +kernel) rfl rfl rfl rfl)) (fun _ _ _=>Yc) (fun _ _ _=>(Qu Yp (pv 0) (Qu Wj (pv 2) (pv 1)))))
  (Qh (Qjb (i:=3) scSumRow.nd rfl (inl rfl) (Qu Wj (pv 5) (Qo Qm (pv 4) Qe)) Qmd))))
  (Qh (Qp (Qy (Qa (Qz Xb rfl M.tuple_ Xp (Qa (pv 2) Qc)) (Qa (pv 3) Qc)))))))),?_⟩
 refine Jj ?_;intros
 exists"z"
 obtain⟨O,L⟩:=id ac
 exists Z1 1,fun p0 ad=>?_
 exists 4,p0,(n:Int),4,rfl,upd_same,Om,Om,by show 1*((n:Int)).toNat<=sizeLine;lia,fun g0 ae=>?_
 have e0:(qg ((n:Int)).toNat [V.int 0]).flatten=(qg n (0:Int)).map V.int:=rep0 n
 rw[e0]
 have s0:Same H (upd (upd H p0 (.lst [.int 0])) g0 (.lst ((qg n (0:Int)).map V.int))):=(Qb ad _).trans (Qb ae _)
 let af:Nat->St->Hp->Prop:=fun i W J=>∃(g:Addr) (u v:Option V),W=[some (.int (n:Int)),some (.ref l),some (.ref g),some (.int (Yq n (B.take i)).2),u,v]/\J g=some (.lst ((Yq n (B.take i)).1.map V.int))/\Same H J
 exists 4,l,rfl,⟨_,s0.seq hl⟩,Zd (K:=K) (a:=l) (xs:=X) af ⟨g0,none,none,rfl,upd_same,s0⟩ (fun i W J _ h=>?_) ?_ ?_
 .obtain⟨g,u,v,rfl,r,m⟩:=h
  exact m.seq hl
 .rintro i x W J e1 ⟨g,u,v,rfl,r,m⟩
  have hi:i<X.length:=(jW.mp e1).1
  obtain⟨p,ep⟩:∃p,B[i]?=some p:=⟨_,gE Om⟩
  obtain⟨T,t,rfl,hT,q1,r1,U⟩:=L i x p e1 ep
  obtain⟨ai,S,R⟩:=z p (kK ep)
  have eS:=Qih n ep
  have lA:(Yq n (B.take i)).1.length=n:=Qam n _ fun p' ag=>(z p' (kYc ag)).1
  generalize Yq n (B.take i)=acc at r eS lA⊢
  exists T,4,m.tup hT,rfl,_,4,7,?_
  exists 4,4,t,8,m.tup r1,at0,g,q1,rfl,⟨_,Qg r⟩,⟨_,m.tup U⟩,fun D hD=>?_
  let ah:Nat->St->List V->Hp->Prop:=fun k I G C=>∃a b:Option V,I=[a,b,some (.int p.2)]/\G=((List.zipWith (fun x y=>x+p.2*y) acc.1 p.1.1).take k).map V.int/\C D=some (.lst G)/\Same J C
  refine Yg (n:=n) ah ?_ (fun k I G C hk h=>?_) (fun k I G C hk h=>?_) (fun I G C h=>?_) ?_ ?_
  .exact⟨none,none,rfl,rfl,upd_same,Qb hD _⟩
  .obtain⟨a,b,rfl,rfl,c,d⟩:=h
   exists c,by rw[jQ,yY];lia
  .obtain⟨a,b,rfl,rfl,c,d⟩:=h
   have k1:k<acc.1.length:=Om
   have k2:k<p.1.1.length:=Om
   exists _,_,.int acc.1[k],.int p.1.1[k],d.seq (Qg r),(m.trans d).tup U,by rw[jZ,gE k1];rfl,by rw[jZ,gE k2];rfl
  .obtain⟨a,b,rfl,rfl,c,d⟩:=h
   exists _,_,d.seq (Qg r),(m.trans d).tup U,by rw[jQ,jQ];lia
  .rintro k I G C x' H3 hk ⟨a,b,rfl,rfl,c,d⟩ ⟨T2,x1,y1,rfl,N,rfl,e3,e4⟩
   obtain⟨m1,Y,rfl⟩:=Yf (e3 _ (d.seq (Qg r)))
   obtain⟨m2,ab,rfl⟩:=Yf (e4 _ ((m.trans d).tup U))
   exists T2,4,Qn upd_same,rfl,_,4,7,?_
   exists 4,4,4,7,.inl ⟨S,R⟩,7,?_,_,4,?_,upd_same,fun b' o e=>?_
   .rw[Qj (Qi c N)];exact c
   .rw[Zh (Quz Y ab),kY];rfl
   .rw[Qj (Qi e hD),Qj (Qi (d _ _ e) N)];exact d _ _ e
  .rintro I G C ⟨a,b,rfl,rfl,c,d⟩
   rw[zX (by rw[yQa];lia)]at c
   exists 4,4,4,t,8,(m.trans d).tup r1,at1,7,.inl ⟨S,R⟩,7,D,some (.ref t),some (.int p.2),?_,?_,m.trans d
   .rw[eS];rfl
   .rw[eS];exact c
 .rintro W J ⟨g,u,v,rfl,r,m⟩
  have eT:B.take X.length=B:=by rw[O,wJ]
  rw[eT]at r⊢
  exists 4,_,4,.inl ⟨Qg r,fun l2 aa=>?_⟩
  exists 4,Z1 2,fun t ht=>?_
  have nt:l2≠t:=Qi upd_same ht
  exact q t _ ((m.trans (Qb aa _)).trans (Qb ht _)) ⟨l2,Qn upd_same,Qn (by rw[Qj nt];exact upd_same)⟩
theorem scMost:FnScope ["row","holds","held","most","choice","number","worth"] ["row","holds"] (Qf Qoa):=Sc
theorem okMost(F:Fn K mg "most_of" Qoa)(M:Mg mg):qC 1 "most_of" ["row","holds"] (Qtl K):=by
 refine Xf F scMost (a:=fun f ab A L s H N Q E X h=>?_)
 obtain⟨t,l,r,C,rfl,⟨p,R,D⟩,⟨N,Z,hp⟩,hn,hw,q⟩:=h
 have hu:=Z6 1 X.un
 refine⟨_,(Qd (Z4 2 scMost.nd (Qz (Qgr rfl) rfl M.dict_ Quk (Qa (pv 1) Qc)))
  (Qd (Z4 3 scMost.nd Qe)
  (Qd (Yo PassesOwn.never rfl (Qnl false rfl M.enumerate_ (Qa (Qo Qm (pv 0) Qe) Qc)) (Yb (K:=K) (i:=4) (j:=5) rfl rfl scMost.nd rfl rfl rfl rfl) (Qd (Z4 6 scMost.nd (Qqw hu (pv 2) (pv 4) ⟨rfl,rfl,rfl,rfl⟩))
  (Qh (Xg (PW.pt (Yx (Qr Yh (pv 6) Qe (Qs _)) (Yr (PW.pt (Ko (Qr Qax (pv 6) Xh (Qs _)) (Ju (Qr Qub (pv 5) Qe (Qs _)))))))) (Qh (Qjb (i:=3) scMost.nd rfl (inl rfl) (pv 5) Qmd)) Qq))))
  (Qh (Qp (pv 3)))))),?_⟩
 refine Jj ?_;intros
 exists"z"
 exists 4,l,N,4,Z,hp,by rw[jQ];lia,fun d hd=>?_
 have S:Same H (upd H d (.dK (dOf C))):=Qb hd _
 let U:Nat->St->Hp->Prop:=fun i I B=>∃u v x:Option V,I=[some (.ref t),some (.ref l),some (.ref d),some (.int (Vz (dOf C) r.1 i)),u,v,x]/\B d=some (.dK (dOf C))/\Same H B
 exists 4,t,8,S.tup R,at0,p,rfl,⟨_,S.tup D⟩,Qjm (K:=K) (m:=false) (a:=p) (xs:=r.1.map V.int) U ⟨none,none,none,rfl,upd_same,S⟩ (fun i I B _ h=>?_) ?_ ?_
 .obtain⟨u,v,x,rfl,g,G⟩:=h
  exact G.tup D
 .rintro i x I B T e1 ⟨u,v,y,rfl,g,G⟩ W
  obtain⟨n,Y,rfl⟩:=Yf e1
  have b:upd B T (.tup [.int ((i:Nat):Int),.int n]) d=some (.dK (dOf C)):=by rw[Qj (Qi g W)];exact g
  have J:=G.trans (Qb W (.tup [.int ((i:Nat):Int),.int n]))
  have o:=Qif (dOf C) Y
  exists T,4,Qn upd_same,rfl,_,4,7,?_
  exists 4,d,rfl,.inl ⟨_,.inl b⟩,4,_,DGet.k (k:=Sum.inl ((i:Nat):Int)) b,?_
  rcases Qoc hw (Sum.inl ((i:Nat):Int))with e | e | e
  .rw[e]at o⊢
   exists 4,rfl,4,iteF ⟨_,rfl,rfl,_,rfl,iteT ⟨_,rfl,_,_,rfl,rfl,_,rfl,ite2 (fun c=>?_) (fun c=>?_)⟩⟩
   .have O:0<n:=yQ c
    exists 4,4,7,some (.int ((i:Nat):Int)),some (.int n),some .non,?_,b,J
    rw[o,show Qll none n=n from Y22 O]
    rfl
   .have O:¬0<n:=fun z=>c (yJ z)
    exists some (.int ((i:Nat):Int)),some (.int n),some .non,?_,b,J
    rw[o,show Qll none n=0 from Y20 O,Int.add_zero]
    rfl
  .rw[e]at o⊢
   exists 4,rfl,4,iteF ⟨_,rfl,rfl,_,rfl,iteF (iteF ?_)⟩
   exists some (.int ((i:Nat):Int)),some (.int n),some (.int 0),?_,b,J
   rw[o,show Qll (some (.int 0)) n=0 from Int.zero_mul n,Int.add_zero]
   rfl
  .rw[e]at o⊢
   exists 4,rfl,4,iteT (iteT ?_)
   exists 4,4,7,some (.int ((i:Nat):Int)),some (.int n),some (.int 1),?_,b,J
   rw[o,show Qll (some (.int 1)) n=n from Int.one_mul n]
   rfl
 .rintro I B ⟨u,v,y,rfl,g,G⟩
  rw[jQ]
  exists 4,q B G
abbrev Qey:Stmt:=top 5
abbrev Vq:Stmt:=top 6
abbrev Wy:Stmt:=top 8
abbrev Qbg:Stmt:=top 9
theorem scSingle:FnScope ["count","choice","number","least","numbers"] ["count","choice","number","least"] (Qf Qey):=Sc
theorem Qro(F:Fn K mg "single_row" Qey)(M:Mg mg):qC 1 "single_row" ["count","choice","number","least"] (Qex K):=by
 refine Xf F scSingle (a:=fun f C A j s H z Q E J h=>?_)
 obtain⟨n,c,x,l,rfl,D,L,q⟩:=h
 refine⟨_,(Qd (Z4 4 scSingle.nd (Qu Vb (Xo (Qa Qe Qc)) (pv 0)))
  (Qd (Zp (pv 2) (Kx (pv 4) (pv 1) set_list))
  (Qh (Qp (Qy (Qa (Qz Xb rfl M.tuple_ Xp (Qa (pv 4) Qc)) (Qa (pv 3) Qc))))))),?_⟩
 refine Ji ?_;intros
 exists"z"
 exists Z1 1,fun i g=>?_
 exists 4,i,(n:Int),4,rfl,upd_same,Om,Om,by show 1*((n:Int)).toNat<=sizeLine;lia,fun a d=>?_
 have u:(qg ((n:Int)).toNat [V.int 0]).flatten=(qg n (0:Int)).map V.int:=rep0 n
 rw[u]
 have r:Same H (upd (upd H i (.lst [.int 0])) a (.lst ((qg n (0:Int)).map V.int))):=(Qb g _).trans (Qb d _)
 have y:H a=none:=by
  cases v:H a with
  |none=>rfl
  |some o=>rw[Qb g (.lst [.int 0]) _ _ v]at d;cases d
 have m:upd (upd H i (.lst [.int 0])) a (.lst ((qg n (0:Int)).map V.int)) a=some (.lst ((qg n (0:Int)).map V.int)):=upd_same
 generalize upd (upd H i (.lst [.int 0])) a (.lst ((qg n (0:Int)).map V.int))=H0 at r m⊢
 exists 4,4,4,a,_,_,c,rfl,rfl,m,Qby (by rw[jQ,zZ];exact D),?_
 rw[set_map]
 have G:Same H (upd H0 a (.lst (((qg n (0:Int)).set c x).map V.int))):=fun b o e=>by rw[Qj (Qi e y)];exact r _ _ e
 exists 4,a,4,.inl ⟨Qg upd_same,fun O k=>⟨_,rfl,Z1 2,fun t p=>?_⟩⟩
 exact q t _ ((G.trans (Qb k _)).trans (Qb p _)) (Qcp p)
theorem Qik:FnScope ["problem","best"] ["problem","best"] (Qf Vq):=Sc
theorem Qil(F:Fn K mg "better_row" Vq)(M:Mg mg):qC 1 "better_row" ["problem","best"] (Qjy K):=by
 refine Xf F Qik (fun _ _ _ _ _ _=>Zo (fun _ _=>rfl)) (fun I H Q E h=>?_) (fun f L A u s H I Q E U h=>?_)
 .obtain⟨t,R,p,b,rfl,_⟩:=h
  rfl
 obtain⟨t,R,p,b,rfl,⟨l,c,us,T,Y,N,r⟩,W,q⟩:=h
 exists _,(Qh (Qp (Qy (Qa (Qz Xb rfl M.tuple_ Xp (Qa (Zn ["cost"] [none] rfl (Qaw (Qo Qm (pv 0) Qe)) (fun _ _ _=>(Z3 0 Z2)) (fun _ _ _=>Yc) (fun _ _ _=>(Wi Jr (pv 0)))) Qc)) (Qa (Qu Ys Qe (pv 1)) Qc))))),?_
 exists"z"
 exists 4,t,8,T,at1,c,rfl,⟨_,r⟩,fun D G=>?_
 let C:Nat->St->List V->Hp->Prop:=fun i k g j=>∃v:Option V,k=[v]/\g=((p.map fun c=>-c).take i).map V.int/\j D=some (.lst g)/\Same H j
 refine Yg (n:=p.length) C ?_ (fun i k g j B h=>?_) (fun i k g j B h=>?_) (fun k g j h=>?_) ?_ ?_
 .exact⟨none,rfl,rfl,upd_same,Qb G _⟩
 .obtain⟨v,rfl,rfl,d,a⟩:=h
  exists d,by rw[jQ,yY];lia
 .obtain⟨v,rfl,rfl,d,a⟩:=h
  exists _,.int p[i],a.tup r,by rw[jZ,gE B];rfl
 .obtain⟨v,rfl,rfl,d,a⟩:=h
  exists _,a.tup r,by rw[jQ];exact jJ _
 .rintro i k g j x X B ⟨v,rfl,rfl,d,a⟩ ⟨rfl,O⟩
  obtain⟨z,S,rfl⟩:=Yf (O _ (a.tup r))
  exists 4,4,d,4,?_,upd_same,fun b' o e=>?_
  .rw[Zh (show(p.map fun c=>-c)[i]?=some (-z)by rw[jZ,S];rfl),kY];rfl
  .rw[Qj (Qi e G)];exact a _ _ e
 .rintro k g j ⟨v,rfl,rfl,d,a⟩
  rw[zX (by rw[jQ];exact jJ _)]at d
  exists D,4,.inl ⟨Qg d,fun l2 y=>⟨_,rfl,_,_,rfl,rfl,Z1 2,fun J m=>?_⟩⟩
  exact q J _ ((a.trans (Qb y _)).trans (Qb m _)) (Qcp m)
theorem Qlp:FnScope ["row","by"] ["row","by"] (Qf Wy):=Sc
theorem Qlq(F:Fn K mg "share_row" Wy)(M:Mg mg):qC 1 "share_row" ["row","by"] (Qof K):=by
 refine Xf F Qlp (fun _ _ _ _ _ _=>Zo (fun _ _=>rfl)) (fun L H Q E h=>?_) (fun f O A u s H L Q E T h=>?_)
 .obtain⟨t,r,b,rfl,_⟩:=h
  rfl
 obtain⟨t,r,b,rfl,⟨p,m,c⟩,U,Y,J,q⟩:=h
 exists _,(Qh (Qp (Qy (Qa (Qz Xb rfl M.tuple_ Xp (Qa (Zn ["number","by"] [none,some 1] rfl (Qaw (Qo Qm (pv 0) Qe)) (fun _ _ _=>(Z3 0 (show(["number","by"]:List Str).Nodup by decide +kernel))) (fun _ _ _=>Yc) (fun _ _ _=>(Wi Jr (Qu Wr (Wi Jr (pv 0)) (pv 1))))) Qc)) (Qa (Wi Jr (Qu Wr (Wi Jr (Qo Qm (pv 0) Qe)) (pv 1))) Qc))))),?_
 exists"z"
 exists 4,t,8,m,at0,p,rfl,⟨_,c⟩,fun D I=>?_
 let C:Nat->St->List V->Hp->Prop:=fun i k g j=>∃v:Option V,k=[v,some (.int b)]/\g=((r.1.map fun x=>-((-x).fdiv b)).take i).map V.int/\j D=some (.lst g)/\Same H j
 refine Yg (n:=r.1.length) C ?_ (fun i k g j B h=>?_) (fun i k g j B h=>?_) (fun k g j h=>?_) ?_ ?_
 .exact⟨none,rfl,rfl,upd_same,Qb I _⟩
 .obtain⟨v,rfl,rfl,d,a⟩:=h
  exists d,by rw[jQ,yY];lia
 .obtain⟨v,rfl,rfl,d,a⟩:=h
  exists _,.int r.1[i],a.tup c,by rw[jZ,gE B];rfl
 .obtain⟨v,rfl,rfl,d,a⟩:=h
  exists _,a.tup c,by rw[jQ];exact jJ _
 .rintro i k g j x W B ⟨v,rfl,rfl,d,a⟩ ⟨rfl,R⟩
  obtain⟨z,S,rfl⟩:=Yf (R _ (a.tup c))
  exists 4,4,4,7,⟨Om,J⟩,4,d,4,?_,upd_same,fun b' o e=>?_
  .rw[Zh (show(r.1.map fun x=>-((-x).fdiv b))[i]?=some (-((-z).fdiv b))by rw[jZ,S];rfl),kY];rfl
  .rw[Qj (Qi e I)];exact a _ _ e
 .rintro k g j ⟨v,rfl,rfl,d,a⟩
  rw[zX (by rw[jQ];exact jJ _)]at d
  exists D,4,.inl ⟨Qg d,fun Z y=>?_⟩
  have G:=a.trans (Qb y (.tup ((r.1.map fun x=>-((-x).fdiv b)).map V.int)))
  exists 4,t,8,G.tup m,at1,4,4,7,⟨Om,J⟩,4,Z1 2,fun N l=>?_
  exact q N _ (G.trans (Qb l _)) (Qcp l)
theorem scShutRow:FnScope ["count","holds","numbers","least","choice","worth"] ["count","holds"] (Qf Qbg):=Sc
theorem Qog(F:Fn K mg "shut_row" Qbg)(M:Mg mg):qC 1 "shut_row" ["count","holds"] (Qhb K):=by
 refine Xf F scShutRow (a:=fun f ad A G s H vs Q E hr h=>?_)
 obtain⟨l,n,g,rfl,⟨Z,W,y⟩,N,hn,q⟩:=h
 refine⟨_,(Qd (Z4 2 scShutRow.nd (Qu Vb (Xo (Qa Qe Qc)) (pv 0)))
  (Qd (Z4 3 scShutRow.nd Qe)
  (Qd (Yo PassesOwn.never rfl (Xq (pv 1)) (Yb (K:=K) (i:=4) (j:=5) rfl rfl scShutRow.nd rfl rfl rfl rfl) (Qd (Zp (Qu Ys Qe (Qu Wj Qe (pv 5))) (Kx (pv 2) (pv 4) set_list))
  (Qh (Qjb (i:=3) scShutRow.nd rfl (inl rfl) (pv 5) Qtb))))
  (Qh (Qp (Qy (Qa (Qz Xb rfl M.tuple_ Xp (Qa (pv 2) Qc)) (Qa (pv 3) Qc)))))))),?_⟩
 refine Jj ?_;intros
 exists"z"
 have S:=y.length
 rw[jQ]at S
 exists Z1 1,fun C z=>?_
 exists 4,C,(n:Int),4,rfl,upd_same,Om,Om,by show 1*((n:Int)).toNat<=sizeLine;lia,fun k p=>?_
 have e0:(qg ((n:Int)).toNat [V.int 0]).flatten=(qg n (0:Int)).map V.int:=rep0 n
 rw[e0]
 have O:Same H (upd (upd H C (.lst [.int 0])) k (.lst ((qg n (0:Int)).map V.int))):=(Qb z _).trans (Qb p _)
 have gH:H k=none:=by
  cases e5:H k with
  |none=>rfl
  |some o=>rw[Qb z (.lst [.int 0]) _ _ e5]at p;cases p
 have R:upd (upd H C (.lst [.int 0])) k (.lst ((qg n (0:Int)).map V.int)) k=some (.lst ((qg n (0:Int)).map V.int)):=upd_same
 generalize upd (upd H C (.lst [.int 0])) k (.lst ((qg n (0:Int)).map V.int))=H0 at O R⊢
 let L:Nat->St->Hp->Prop:=fun i D B=>∃u v:Option V,D=[some (.int (n:Int)),some (.ref l),some (.ref k),some (.int (Jq (g.take i))),u,v]/\B k=some (.lst ((Yd n (g.take i)).map V.int))/\(Yd n (g.take i)).length=n/\Same H B
 exists 4,l,rfl,⟨_,O.seq W⟩,Zd (K:=K) (a:=l) (xs:=Z) L ⟨none,none,rfl,R,zZ ..,O⟩ (fun i D B _ h=>?_) ?_ ?_
 .obtain⟨u,v,rfl,d,m,r⟩:=h
  exact r.seq W
 .rintro i x D B e1 ⟨u,v,rfl,d,m,r⟩
  obtain⟨T,pr,rfl,U,hT⟩:=y.get e1
  rw[jZ]at U
  obtain⟨⟨c,w⟩,J,rfl⟩:=zY.mp U
  obtain⟨k1,k2,k3⟩:=N (c,w) (kK J)
  have ag:0<=c:=k1
  have ab:c<(n:Int):=k2
  have aa:w=0\/w=1:=k3
  have X:Yd n (g.take (i+1))=(Yd n (g.take i)).set c.toNat (1-2*w):=by unfold Yd;rw[Zh J,jZa];rfl
  have eL:Jq (g.take (i+1))=Jq (g.take i)-w:=by unfold Jq;rw[Zh J,jZa];rfl
  exists T,4,r.tup hT,rfl,_,4,7,?_
  exists 4,7,.inl ⟨Dc,Dc⟩,7,4,4,k,_,_,c.toNat,rfl,rfl,d,by rw[show c=((c.toNat:Nat):Int)by lia];exact Qby (by rw[jQ,m];lia),?_
  exists 4,4,7,some (.int c),some (.int w),?_,?_,?_,fun b o e=>?_
  rotate_left
  .rw[upd_same,X,<-set_map]
  .rw[X,jQb];exact m
  .rw[Qj (Qi e gH)];exact r _ _ e
  .rw[eL];rfl
 .rintro D B ⟨u,v,rfl,d,m,r⟩
  have eT:g.take Z.length=g:=by rw[S,wJ]
  rw[eT]at d⊢
  exists 4,k,4,.inl ⟨Qg d,fun l2 I=>⟨_,rfl,Z1 2,fun t Y=>?_⟩⟩
  exact q t _ ((r.trans (Qb I _)).trans (Qb Y _)) (Qcp Y)
abbrev Qbh:Stmt:=top 10
abbrev Vr:Stmt:=top 11
abbrev Qbi:Stmt:=top 12
theorem Qoh:FnScope ["row","choice"] ["row","choice"] (Qf Qbh):=Sc
theorem Qoi(F:Fn K mg "without" Qbh)(M:Mg mg):qC 1 "without" ["row","choice"] (Qcn K):=by
 refine Xf F Qoh (fun _ _ _ _ _ _=>Zo (fun _ _=>rfl)) (fun J H Q E h=>?_) (fun f O A n s H J Q E U h=>?_)
 .obtain⟨t,r,c,rfl,_⟩:=h
  rfl
 obtain⟨t,r,c,rfl,⟨p,j,k⟩,W,d,q⟩:=h
 exists _,(Qh (Qp (Qu Qdy (Qu Qca (Yi Qdj (Qo Qm (pv 0) Qe) Zv (Yj (pv 1))) (Qy (Qa Qe Qc))) (Yi Qdj (Qo Qm (pv 0) Qe) (Yj (Qu Yp (pv 1) Qe)) Zv)))),?_
 exists"z"
 have m:(r.1.map V.int).length=r.1.length:=jQ ..
 have g:cutV (r.1.map V.int) none (some (c:Int))=(r.1.take c).map V.int:=by
  unfold cutV
  show((r.1.map V.int).drop 0).take ((if (c:Int)<0 then((c:Int)+((r.1.map V.int).length:Int)).toNat else min ((c:Int)).toNat (r.1.map V.int).length)-0)=_
  rw[Y20 (kXe.mpr (jYe c)),List.drop_zero,kZa,m,jQc,jXd (kQd d),Nat.sub_zero]
 have i:cutV (r.1.map V.int) (some ((c:Int)+1)) none=(r.1.drop (c+1)).map V.int:=by
  unfold cutV
  show((r.1.map V.int).drop (if (c:Int)+1<0 then((c:Int)+1+((r.1.map V.int).length:Int)).toNat else min ((c:Int)+1).toNat (r.1.map V.int).length)).take ((r.1.map V.int).length-(if (c:Int)+1<0 then((c:Int)+1+((r.1.map V.int).length:Int)).toNat else min ((c:Int)+1).toNat (r.1.map V.int).length))=_
  rw[Y20 (show ¬(c:Int)+1<0 from kXe.mpr (jYe (c+1))),kZb]
  have e:min ((c:Int)+1).toNat (r.1.map V.int).length=c+1:=by rw[m];exact jXd (show c+1<=r.1.length from d)
  rw[e]
  apply zX
  rw[wY]
  exact jJ _
 exists 4,t,8,j,at0,4,4,p,4,k,?_,fun G o=>?_
 .rintro⟨_,u⟩
  have b:(if (c:Int)<0 then((c:Int)+((r.1.map V.int).length:Int)).toNat else min ((c:Int)).toNat (r.1.map V.int).length)=(r.1.map V.int).length:=u
  rw[Y20 (kXe.mpr (jYe c)),m,jQc,jXd (kQd d)]at b
  exact Y21 b (xQ d)
 rw[g]
 have R:=Qb o (.tup ((r.1.take c).map V.int))
 exists Z1 1,fun L v=>?_
 have D:=Qb v (.tup [V.int 0])
 exists G,L,7,D.tup (Qn upd_same),Qn upd_same,by simp,by rw[jQ,yY];show _+1<=_;lia,fun B Y N b=>?_
 have a:=(R.trans D).trans N
 exists 4,t,8,a.tup j,at0,4,7,4,p,4,a.tup k,?_,fun S x=>?_
 .rintro⟨u,_⟩
  have b:(if (c:Int)+1<0 then((c:Int)+1+((r.1.map V.int).length:Int)).toNat else min ((c:Int)+1).toNat (r.1.map V.int).length)=0:=u
  rw[Y20 (show ¬(c:Int)+1<0 from kXe.mpr (jYe (c+1))),m]at b
  exact Y21 ((jXd (show c+1<=r.1.length from d)).symm.trans b) (kZc c)
 rw[i]
 have l:=Qb x (.tup ((r.1.drop (c+1)).map V.int))
 have C:(Xi r.1 c).map V.int=((r.1.take c).map V.int++[V.int 0])++(r.1.drop (c+1)).map V.int:=by unfold Xi;rw[kY,kY];rfl
 exists B,S,7,l.tup b,Qn upd_same,by simp,by rw[jV,jQ,jQ,yY,wY];show _+1+_<=_;lia,fun z=>?_,fun z I y=>?_
 .refine q B _ (a.trans l) ?_
  have T:(Xi r.1 c).map V.int=(r.1.take c).map V.int++[V.int 0]:=by rw[C,z,kXd]
  rw[T]
  exact l.tup b
 .refine q I _ ((a.trans l).trans (Qb y _)) ?_
  rw[C]
  exact Qn upd_same
theorem Qim:FnScope ["one","other","choice"] ["one","other","choice"] (Qf Vr):=Sc
theorem Qin(F:Fn K mg "either_row" Vr)(M:Mg mg)(a:qC 1 "without" ["row","choice"] (Qcn K)):qC 2 "either_row" ["one","other","choice"] (Qco K):=by
 refine Xf F Qim (fun _ _ _ _ _ _=>Qen (fun _ _ _=>rfl)) (fun v H Q E h=>?_) (fun f y A g s H v Q E r h=>?_)
 .obtain⟨d,i,e,o,c,rfl,_⟩:=h
  rfl
 obtain⟨d,i,e,o,c,rfl,k,B,u,j,q⟩:=h
 exists _,(Qh (Qp (Qy (Qa (Xc a (r.mono Dc) (Qa (pv 0) (Qa (pv 2) Qc))) (Qa (Qk (Qfw rfl) rfl M.min Qth (Qa (Qu Ys (Qo Qm (pv 0) Qe) (Qo Qm (Qo Qm (pv 0) Qe) (pv 2))) (Qa (Qo Qm (pv 1) Qe) Qc))) Qc))))),?_
 obtain⟨n,m,x⟩:=id k
 obtain⟨D,C,G⟩:=id B
 exists 4,4,d,e,c,rfl,k,u,j,fun p I b z=>?_
 exists 4,d,8,b.tup m,at1,4,d,8,b.tup m,at0,4,n,8,b.tup x,Yy (show(e.1.map V.int)[c]?=some (V.int (e.1.getD c 0))by rw[jZ,jY,gE j];rfl),7,4,i,8,b.tup C,at1,_,4,Z1 2,fun t l=>?_
 exact q t _ (b.trans (Qb l _)) ⟨p,Qn upd_same,(Qb l _).tup z⟩
theorem scLikeRow:FnScope ["turn","numbers","weight","choice"] ["turn"] (Qf Qbi):=Sc
theorem Qoj(F:Fn K mg "like_row" Qbi)(M:Mg mg):qC 1 "like_row" ["turn"] (Qhc K):=by
 refine Xf F scLikeRow (a:=fun f ab A C s H vs Q E hr h=>?_)
 obtain⟨l,t,rfl,G,ht,I,q⟩:=h
 refine⟨_,(Qd (Z4 1 scLikeRow.nd (Qu Vb (Xo (Qa Qe Qc)) (qL (pv 0))))
  (Qd (Z4 2 scLikeRow.nd Qe)
  (Qd (Yo PassesOwn.never rfl (Qgt rfl M.range_ (Qa (Qu Ys (qL (pv 0)) Qe) (Qa (Wi Jr Qe) (Qa (Wi Jr Qe) Qc)))) (Z3 3 scLikeRow.nd) (Qd (Qmc (pv 1) (pv 3) Qjn (pv 2) Qmd set_list)
  (Qd (Qmc (pv 1) (Qo ix_list (pv 0) (pv 3)) Qjn (pv 2) Qtb set_list)
  (Qh (Qjb (i:=2) scLikeRow.nd rfl (inl rfl) Qe Qut)))))
  (Qh (Qp (Qy (Qa (Qz Xb rfl M.tuple_ Xp (Qa (pv 1) Qc)) (Qa Qe Qc)))))))),?_⟩
 refine Jj ?_;intros
 exists"z"
 have y:((t.map fun(k:Nat)=>(k:Int)).map V.int).length=t.length:=by rw[jQ,jQ]
 exists Z1 1,fun x L=>?_
 have N:=Qb L (.lst [V.int 0])
 exists 4,l,4,.inl (N.seq G),x,7,upd_same,Om,by rw[y];lia,by rw[y];show 1*((t.length:Int)).toNat<=sizeLine;lia,fun d p=>?_
 rw[y]
 have e0:(qg ((t.length:Int)).toNat [V.int 0]).flatten=(qg t.length (0:Int)).map V.int:=rep0 t.length
 rw[e0]
 have W:H d=none:=by
  cases e5:H d with
  |none=>rfl
  |some o=>rw[N _ _ e5]at p;cases p
 have T:Same H (upd (upd H x (.lst [.int 0])) d (.lst ((qg t.length (0:Int)).map V.int))):=N.trans (Qb p _)
 have U:upd (upd H x (.lst [.int 0])) d (.lst ((qg t.length (0:Int)).map V.int)) d=some (.lst ((qg t.length (0:Int)).map V.int)):=upd_same
 generalize upd (upd H x (.lst [.int 0])) d (.lst ((qg t.length (0:Int)).map V.int))=H0 at T U⊢
 exists 4,l,4,.inl (T.seq G),7,4,4,?_
 rw[y]
 exists _,_,4,⟨Dc,Dc,Qgy Om⟩,Qdm (lo:=(t.length:Int)-1) (c:=-1) (n:=(Builtin.Range.rangeSize ((t.length:Int)-1) (-1) (-1)).toNat) (fun i B r=>∃u:Option V,B=[some (.ref l),some (.ref d),some (.int (Jt t i).2),u]/\r d=some (.lst ((Jt t i).1.map V.int))/\Same H r) ⟨none,rfl,U,T⟩ ?_ ?_
 .rintro i B r hi ⟨u,rfl,g,S⟩
  rw[Ve]at hi
  have ec:(t.length:Int)-1+((i:Nat):Int)*(-1)=((t.length-1-i:Nat):Int):=Om
  rw[ec]
  have z:t.length-1-i<t.length:=Om
  have Z:=Qao t i
  have X:t.getD (t.length-1-i) 0<t.length:=by
   rw[jY,gE z]
   exact I _ (jYa z)
  have J:=Wf t i
  generalize Jt t i=a at g Z J⊢
  generalize t.length-1-i=c at z X J⊢
  exists 4,4,d,8,Qg g,Yy (show(a.1.map V.int)[c]?=some (V.int (a.1.getD c 0))by rw[jZ,jY,gE Om];rfl),4,7,d,_,_,c,rfl,rfl,g,Qby (by rw[jQ];lia),?_
  rw[set_map]
  have m:upd r d (.lst ((a.1.set c (a.1.getD c 0+a.2)).map V.int)) d=some (.lst ((a.1.set c (a.1.getD c 0+a.2)).map V.int)):=upd_same
  have R:Same H (upd r d (.lst ((a.1.set c (a.1.getD c 0+a.2)).map V.int))):=fun b o e=>by rw[Qj (Qi e W)];exact S _ _ e
  have O:(a.1.set c (a.1.getD c 0+a.2)).length=t.length:=by rw[jQb,Z]
  have j:(Jt t (i+1))=((a.1.set c (a.1.getD c 0+a.2)).set (t.getD c 0) ((a.1.set c (a.1.getD c 0+a.2)).getD (t.getD c 0) 0-a.2),a.2*2):=J
  generalize a.1.set c (a.1.getD c 0+a.2)=a1 at m R O j⊢
  have Y:((t.map fun(k:Nat)=>(k:Int)).map V.int)[c]?=some (V.int ((t.getD c 0:Nat):Int)):=by rw[jZ,jZ,jY,gE z];rfl
  generalize t.getD c 0=k at X j Y⊢
  exists 4,4,4,l,8,R.seq G,Yy Y,d,8,Qg m,Yy (show(a1.map V.int)[k]?=some (V.int (a1.getD k 0))by rw[jZ,jY,gE Om];rfl),4,7,d,_,_,k,rfl,rfl,m,Qby (by rw[jQ];lia),?_
  rw[set_map]
  exists 4,7,.inr ⟨Dc,Dc⟩,some (.int ((c:Nat):Int)),?_,?_,fun b o e=>?_
  rotate_left
  .rw[upd_same,j]
  .rw[Qj (Qi e W)];exact R _ _ e
  .rw[j];rfl
 .rintro B r ⟨u,rfl,g,S⟩
  rw[Ve]at g
  exists 4,d,4,.inl ⟨Qg g,fun l2 D=>⟨Z1 2,fun t2 v=>?_⟩⟩
  exact q t2 _ ((S.trans (Qb D _)).trans (Qb v _)) (Qcp v)
abbrev Wz:Stmt:=top 22
abbrev Qcq:Stmt:=top 23
theorem Qlr:FnScope ["thing","count"] ["thing","count"] (Qf Wz):=Sc
theorem Qls(F:Fn K mg "are_holds" Wz)(M:Mg mg)(j:qC 3 "is_hold" ["thing","count"] (Qjv K)):qC 4 "are_holds" ["thing","count"] (Qdo K):=by
 refine Xf F Qlr (fun _ _ _ _ _ _=>Zo (fun _ _=>rfl)) (fun vs H Q E h=>?_) (fun f af A Y s H vs Q E hr h=>?_)
 .obtain⟨v,d,n,rfl,_⟩:=h
  rfl
 obtain⟨v,d,n,rfl,hv,Z,q⟩:=h
 refine⟨_,(Qd (Xg (PW.pt (Yx (Xr (Xl (Qk Xn rfl M.isinstance Qx (Qa (pv 0) (Qa (Jh M.list_ Yu) Qc))))) (Yr (Xr (Xl (Qk (Qbx rfl) rfl M.all Qne (Qa (Zn ["hold","count"] [none,some 1] rfl (Xq (pv 0)) (fun _ _ _=>(Z3 0 (show(["hold","count"]:List Str).Nodup by decide +kernel))) (fun _ _ _=>Yc) (fun _ _ _=>(Xc j (hr.mono Dc) (Qa (pv 0) (Qa (pv 1) Qc))))) Qc))))))) (Qh (Qp Qbp)) Qq)
  (Qh (Qp (Xz Yh (Qk Wu rfl M.len Xa (Qa (Qz (Qch rfl) rfl M.set_ Qtk (Qa (Zn ["hold"] [none] rfl (Xq (pv 0)) (fun _ _ _=>(Z3 0 Z2)) (fun _ _ _=>Yc) (fun _ _ _=>(Qo (Zz (K:=K) rfl) (pv 0) Qe))) Qc)) Qc)) (qL (pv 0)) (Qs _))))),?_⟩
 exists"z"
 cases d with
 |lst p=>
  obtain⟨a,G,rfl,r,I,B⟩:=hv.lst_inv
  have ad:p.length<1000:=Z
  exists 4,_,"list",4,.list,hv.isi _,4,iteF ?_
  exists 4,a,rfl,⟨_,r⟩,fun D hD=>?_
  let ab:Nat->St->List V->Hp->Prop:=fun i m l y=>∃u:Option V,m=[u,some (.int (n:Int))]/\l=((p.take i).map fun d=>(Ku n d).isSome).map V.bl/\y D=some (.lst l)/\Same H y
  refine Yg (n:=p.length) ab ?_ (fun i m l y L h=>?_) (fun i m l y L h=>?_) (fun m l y h=>?_) ?_ ?_
  .exact⟨none,rfl,rfl,upd_same,Qb hD _⟩
  .obtain⟨u,rfl,rfl,J,k⟩:=h
   exists J,by rw[jQ,jQ,yY];lia
  .obtain⟨u,rfl,rfl,J,k⟩:=h
   exists G,G[i]'Om,k.seq r,gE Om
  .obtain⟨u,rfl,rfl,J,k⟩:=h
   exists G,k.seq r,Om
  .rintro i m l y x C L ⟨u,rfl,rfl,J,k⟩ ⟨rfl,N⟩
   obtain⟨d,ed⟩:∃d,p[i]?=some d:=⟨_,gE L⟩
   have hx:=(B i _ _ (N _ (k.seq r)) ed).same k
   exists 4,4,_,d,n,rfl,hx,J,4,?_,upd_same,fun b o e=>?_
   .rw[Zh ed,kY,kY];rfl
   .rw[Qj (Qi e hD)];exact k _ _ e
  rintro m l y ⟨u,rfl,rfl,J,k⟩
  rw[wJ]at J
  exists D,4,Qg J,?_
  have W:(p.map fun d=>(Ku n d).isSome).all id=(allT (Ku n) p).isSome:=by rw[Kj,List.all_map];rfl
  rw[W]
  cases X:allT (Ku n) p with
  |none=>
   have:=q y k
   rw[Qij X]at this
   exists 4,iteT this
  |some hs=>
   obtain⟨hp,ag⟩:=Qdq (n:=n) I B X
   obtain⟨el,eg⟩:=Jl X
   exists 4,iteF ?_
   exists 4,a,rfl,⟨_,k.seq r⟩,fun D2 O=>?_
   let ac:Nat->St->List V->Hp->Prop:=fun i m l C=>∃u:Option V,m=[u]/\l=((hs.map (·.1)).take i).map V.int/\C D2=some (.lst l)/\Same y C
   refine Yg (n:=p.length) ac ?_ (fun i m l C L h=>?_) (fun i m l C L h=>?_) (fun m l C h=>?_) ?_ ?_
   .exact⟨none,rfl,rfl,upd_same,Qb O _⟩
   .obtain⟨u,rfl,rfl,g,t⟩:=h
    exists g,by rw[jQ,yY];lia
   .obtain⟨u,rfl,rfl,g,t⟩:=h
    exists G,G[i]'Om,(k.trans t).seq r,gE Om
   .obtain⟨u,rfl,rfl,g,t⟩:=h
    exists G,(k.trans t).seq r,Om
   .rintro i m l C x H3 L ⟨u,rfl,rfl,g,t⟩ ⟨rfl,N⟩
    have R:=k.trans t
    obtain⟨T,pr,rfl,ep,hT⟩:=hp.get (N _ (R.seq r))
    rw[jZ]at ep
    obtain⟨⟨c,w⟩,ec,rfl⟩:=zY.mp ep
    exists 4,T,8,R.tup hT,at0,g,4,?_,upd_same,fun b o e=>?_
    .rw[Zh (show(hs.map (·.1))[i]?=some c by rw[jZ,ec];rfl),kY];rfl
    .rw[Qj (Qi e O)];exact t _ _ e
   .rintro m l C ⟨u,rfl,rfl,g,t⟩
    rw[zX (by rw[jQ];lia)]at g
    exists D2,hs.map (·.1),rfl,Qg g,by rw[jQ];lia,fun d2 S aa=>?_
    have s3:=Qb aa (.set S ((hs.map (·.1)).foldl PyProof.Rows.step_dedup []).length)
    have U:=(k.trans t).trans s3
    exists d2,S,4,upd_same,4,a,G,rfl,.inl (U.seq r),rfl,?_
    have hq:=q _ U
    have:decide (V.int ((((hs.map (·.1)).foldl PyProof.Rows.step_dedup []).length:Nat):Int)=V.int (G.length:Int))=(Je n (.lst p)).isSome:=by
     apply Qcl
     rw[decide_eq_true_iff,Qlm]
     constructor
     .intro z
      have z1:=V.int.inj z
      exists hs,X,(Qci _).mp ?_
      rw[jQ]
      lia
     .rintro⟨ae,N,e2⟩
      rw[X]at N
      cases N
      have:=(Qci _).mpr e2
      rw[jQ]at this
      rw[this,el,I]
    rw[<-this]at hq
    exact hq
 |int i=>exists 4,_,"list",4,.list,hv.isi _,4,iteT (q H (Same.refl H))
 |non=>exists 4,_,"list",4,.list,hv.isi _,4,iteT (q H (Same.refl H))
 |bl b=>exists 4,_,"list",4,.list,hv.isi _,4,iteT (q H (Same.refl H))
 |str s=>exists 4,_,"list",4,.list,hv.isi _,4,iteT (q H (Same.refl H))
 |tup p=>exists 4,_,"list",4,.list,hv.isi _,4,iteT (q H (Same.refl H))
theorem Qrp:FnScope ["thing","count"] ["thing","count"] (Qf Qcq):=Sc
theorem Qrq(F:Fn K mg "is_turn" Qcq)(M:Mg mg)(g:qC 2 "is_number_of" ["thing","count"] (Vg K)):qC 3 "is_turn" ["thing","count"] (Qjw K):=by
 refine Xf F Qrp (fun _ _ _ _ _ _=>Zo (fun _ _=>rfl)) (fun vs H Q E h=>?_) (fun f ae A S s H vs Q E hr h=>?_)
 .obtain⟨v,d,n,rfl,_⟩:=h
  rfl
 obtain⟨v,d,n,rfl,hv,Y,hn,q⟩:=h
 have R:=Z6 6 hr.un
 refine⟨_,(Qd (Xg (PW.pt (Yx (Xr (Xl (Qk Xn rfl M.isinstance Qx (Qa (pv 0) (Qa (Jh M.list_ Yu) Qc))))) (Yr (Xr (Xl (Qk (Qbx rfl) rfl M.all Qne (Qa (Zn ["choice","count"] [none,some 1] rfl (Xq (pv 0)) (fun _ _ _=>(Z3 0 (show(["choice","count"]:List Str).Nodup by decide +kernel))) (fun _ _ _=>Yc) (fun _ _ _=>(Xc g (hr.mono Dc) (Qa (pv 0) (Qa (pv 1) Qc))))) Qc))))))) (Qh (Qp Qbp)) Qq)
  (Qh (Qp (Xz (Qnc (n:=6) R) (Qk (Qay (K:=K) rfl) rfl M.sorted Kd (Qa (pv 0) Qc)) (Qz (Wo rfl) rfl M.list_ Yu (Qa (Qjh M.range_ (Qa (pv 1) Qc)) Qc)) (Qs _))))),?_⟩
 exists"z"
 cases d with
 |lst l=>
  obtain⟨a,Z,rfl,I,J,m⟩:=hv.lst_inv
  have ad:l.length<64:=Y
  exists 4,_,"list",4,.list,hv.isi _,4,iteF ?_
  exists 4,a,rfl,⟨_,I⟩,fun D hD=>?_
  let ac:Nat->St->List V->Hp->Prop:=fun i G C B=>∃u:Option V,G=[u,some (.int (n:Int))]/\C=((l.take i).map fun d=>(numT n d).isSome).map V.bl/\B D=some (.lst C)/\Same H B
  refine Yg (n:=l.length) ac ?_ (fun i G C B X h=>?_) (fun i G C B X h=>?_) (fun G C B h=>?_) ?_ ?_
  .exact⟨none,rfl,rfl,upd_same,Qb hD _⟩
  .obtain⟨u,rfl,rfl,p,j⟩:=h
   exists p,by rw[jQ,jQ,yY];lia
  .obtain⟨u,rfl,rfl,p,j⟩:=h
   exists Z,Z[i]'Om,j.seq I,gE Om
  .obtain⟨u,rfl,rfl,p,j⟩:=h
   exists Z,j.seq I,Om
  .rintro i G C B x H2 X ⟨u,rfl,rfl,p,j⟩ ⟨rfl,e1⟩
   obtain⟨d,ed⟩:∃d,l[i]?=some d:=⟨_,gE X⟩
   have hx:=(m i _ _ (e1 _ (j.seq I)) ed).same j
   exists 4,4,_,d,n,rfl,hx,p,4,?_,upd_same,fun b o e=>?_
   .rw[Zh ed,kY,kY];rfl
   .rw[Qj (Qi e hD)];exact j _ _ e
  rintro G C B ⟨u,rfl,rfl,p,j⟩
  rw[wJ]at p
  exists D,4,Qg p,?_
  have L:(l.map fun d=>(numT n d).isSome).all id=(allT (numT n) l).isSome:=by rw[Kj,List.all_map];rfl
  rw[L]
  cases N:allT (numT n) l with
  |none=>
   have:=q B j
   rw[Qln N]at this
   exists 4,iteT this
  |some t=>
   obtain⟨ev,ab⟩:=Qha (n:=n) J m N
   obtain⟨el,eg⟩:=Jl N
   exists 4,iteF ?_
   exists 4,a,t.map fun(k:Nat)=>(k:Int),rfl,by rw[<-ev];exact j.seq I,by rw[jQ];lia,fun D2 qs T hp hs=>?_
   have s2:=Qb T (.lst (qs.map V.int))
   exists 4,(n:Int),rfl,fun r aa=>?_
   have s3:=Qb aa (.rng 0 (n:Int))
   exists r,(n:Int),rfl,upd_same,Om,Om,fun l2 W=>?_
   have O:=Qb W (.lst ((List.range ((n:Int)).toNat).map fun i=>V.int (i:Nat)))
   have e2:((List.range ((n:Int)).toNat).map fun i=>V.int (i:Nat))=(Wx n).map V.int:=by unfold Wx;rw[jKd];rfl
   rw[e2]at O⊢
   have U:=((j.trans s2).trans s3).trans O
   exists D2,l2,7,lstD (O.seq (s3.seq (Qg upd_same))),lstD (Qg upd_same),?_,fun c hc=>?_
   .refine .lst fun i x y e3 e4=>?_
    rw[jZ]at e3 e4
    obtain⟨a3,_,rfl⟩:=zY.mp e3
    obtain⟨b3,_,rfl⟩:=zY.mp e4
    exact .int _ _
   have hq:=q _ U
   have:c=(Ww n (.lst l)).isSome:=by
    apply Qcl
    rw[hc,Qlo N,<-Qcm ab hp hs]
    constructor
    .intro z
     have z1:qs.map L2.D.int=(Wx n).map L2.D.int:=by injection z
     exact(List.map_inj_right (fun _ _ h=>by cases h;rfl)).mp z1
    .intro z;rw[z]
   rw[<-this]at hq
   exact hq
 |int i=>exists 4,_,"list",4,.list,hv.isi _,4,iteT (q H (Same.refl H))
 |non=>exists 4,_,"list",4,.list,hv.isi _,4,iteT (q H (Same.refl H))
 |bl b=>exists 4,_,"list",4,.list,hv.isi _,4,iteT (q H (Same.refl H))
 |str s=>exists 4,_,"list",4,.list,hv.isi _,4,iteT (q H (Same.refl H))
 |tup l=>exists 4,_,"list",4,.list,hv.isi _,4,iteT (q H (Same.refl H))
abbrev Qez:Stmt:=top 16
abbrev Qcr:Stmt:=top 17
abbrev Row:=L2.Row
def ledR(t:List Nat)(n:Nat)(r:Row):Row:=(put r.1 t n,r.2)
def Qjz(cs:List Int)(t:List Nat)(n:Nat):Prop:=∀i,i<n->cs.getD i 0=cs.getD (t.getD i 0) 0
def Ks(rs:List Row)(cs:List Int)(t:List Nat)(n:Nat):Prop:=Qjz cs t n/\(rs.map (ledR t n)).Perm rs
theorem Qap:∀{xs ys:List Row},xs.Perm ys->xs.Pairwise (fun x y=>Ja y x=false)->ys.Pairwise (fun x y=>Ja y x=false)->xs=ys
 |[],ys,p,_,_=>(List.nil_perm.mp p).symm
 |x::xs,[],p,_,_=>Y21 (List.perm_nil.mp p) (by simp)
 |x::xs,y::ys,p,h1,h2=>by
  obtain⟨c,d⟩:=jKc.mp h1
  obtain⟨b,f⟩:=jKc.mp h2
  have a:x=y:=by
   have mx:x∈y::ys:=p.mem_iff.mp kZ
   have my:y∈x::xs:=p.mem_iff.mpr kZ
   rcases yK.mp mx with e | mx
   .exact e
   .rcases yK.mp my with e | my
    .exact e.symm
    .exact Qce (b x mx) (c y my) |>.symm▸rfl
  subst a
  rw[Qap (p.cons_inv) d f]
theorem Qfa{α β:Type}{f:α->β}(c:∀a b,f a=f b->a=b):∀{xs ys:List α},xs.map f=ys.map f->xs=ys
 |[],[],_=>rfl
 |[],y::ys,h=>by simp at h
 |x::xs,[],h=>by simp at h
 |x::xs,y::ys,h=>by
  rw[xX,xX]at h
  injection h with e d
  rw[c _ _ e,Qfa c d]
theorem Qfb{r:Row}(h:rowD r=rowD q):r=q:=by
 unfold rowD at h
 injection h with h
 injection h with d c
 injection d with d
 injection c with c _
 injection c with c
 exact Prod.ext (Qfa (fun a b e=>by injection e) d) c
theorem rowsD_inj{xs ys:List Row}:(D.lst (xs.map rowD)=D.lst (ys.map rowD))↔xs=ys:=by
 constructor
 .intro h
  injection h with h
  exact Qfa (fun a b e=>Qfb e) h
 .rintro rfl;rfl
theorem Qka{x y:Int}[i:Decidable (V.int x=V.int y)]:decide (V.int x=V.int y)=decide (x=y):=decide_eq_decide.mpr ⟨fun h=>V.int.inj h,fun h=>congrArg V.int h⟩
theorem Qfc{n:Int}(e:ns[i]?=some n):ns.getD i 0=n:=by rw[jY,e];rfl
theorem Qkb{ns:List Nat}(e:ns[i]?=some n):ns.getD i 0=n:=by rw[jY,e];rfl
theorem atK6{k:Nat}(h:k<cs.length):atI (cs.map V.int) ((k:Nat):Int)=some (.int (cs.getD k 0)) :=
 Yy (by rw[jZ,jY,gE h];rfl)
theorem getT(T:IsTurn n t)(h:i<n):t[i]?=some (t.getD i 0)/\t.getD i 0<n:=by
 have a:i<t.length:=by rw[T.length];exact h
 have e:t[i]?=some (t.getD i 0):=by rw[jY,gE a];rfl
 exists e,T.lt e
theorem any_no:(((List.range n).map fun j=>!decide (cs.getD j 0=cs.getD (t.getD j 0) 0)).any id)=true↔¬Qjz cs t n:=by
 rw[kQf]
 constructor
 .rintro⟨b,f,e⟩ h
  obtain⟨j,c,rfl⟩:=zJ.mp f
  have a:(!decide (cs.getD j 0=cs.getD (t.getD j 0) 0))=true:=e
  rw[yJ (h j (jXf.mp c))]at a
  cases a
 .intro h
  refine Classical.byContradiction fun z=>h fun i d=>Classical.byContradiction fun y=>z ⟨_,zJ.mpr ⟨i,jXf.mpr d,rfl⟩,?_⟩
  show(!decide (cs.getD i 0=cs.getD (t.getD i 0) 0))=true
  rw[yV y];rfl
theorem Qok{rs:List Row}{t:Addr}{r:Row}(h:RowsAre K H vs rs)(z:RowAt K H t r):RowsAre K H (vs++[.ref t]) (rs++[r]):=RowsAre.snoc h z
theorem Vs{rs:List Row}(e:Same H H')(h:RowsAre K H vs rs):RowsAre K H' vs rs:=h.imp fun _ _ z=>z.same e
theorem Qol{D:Addr}{rs:List Row}(a:H D=some (.lst ys))(h:RowsAre K H vs rs):RowsAre K (upd H D (.lst zs)) vs rs:=h.imp fun _ _ z=>z.upd a
theorem Qom{t1 t2:TS}{D:Ends}(a:St->Hp->Prop)(b:∀σ' H',a σ' H'->t2 D σ' H')(c:(∀σ' H',a σ' H'->t2 D σ' H')->t1 { D with nx:=t2 D } σ H):tSeq t1 t2 D σ H:=c b
theorem Qfd{t1 t2:TS}{D:Ends}{x:V}(a:St->Hp->Prop)(b:∀σ' H',a σ' H'->t2 D σ' H')(c:(∀σ' H',a σ' H'->t2 D σ' H')->t1 { D with nx:=t2 D } (σ.set i (some x)) H):Qdw i x σ H ({ D with nx:=tSeq t1 t2 D }:Ends).nx:=c b
inductive spKT(K:Fg)(vs:List V)(H:Hp)(Q:VK)(E:XK):Prop|mk(p u:Addr)(rs:List Row)(cs:List Int)(n:Nat)(t:List Nat)(_:vs=[.ref p,.ref u])(_:ProbAt K H p rs cs)(_:SqL K H u ((tI t).map V.int))(_:IsTurn n t)(_:n<=100)(_:(∀r∈rs,r.1.length=n))(_:cs.length=n)(_:rs.length<60)(_:∀(c:Bool) (H':Hp),Same H H'->(c=true↔Ks rs cs t n)->Q (.bl c) H'):spKT K vs H Q E
theorem scTurned:FnScope ["row","turn","numbers","number","place"] ["row","turn"] (Qf Qez):=Sc
theorem Qrr(F:Fn K mg "turned" Qez)(M:Mg mg):qC 1 "turned" ["row","turn"] (Qjk K):=by
 refine Xf F scTurned (a:=fun f ab A L s H vs Q E hr h=>?_)
 obtain⟨r,u,row,n,t,rfl,⟨p,D,G⟩,l,T,hl,hn,q⟩:=h
 refine⟨_,(Qd (Z4 2 scTurned.nd (Qu Vb (Xo (Qa Qe Qc)) (qL (pv 1))))
  (Qd (Yo PassesOwn.never rfl (Qmz false true rfl M.zip_ (Qa (Qo Qm (pv 0) Qe) (Qa (pv 1) Qc))) (Yb (K:=K) (i:=3) (j:=4) rfl rfl scTurned.nd rfl rfl rfl rfl) (Qh (Zp (pv 3) (Kx (pv 2) (pv 4) set_list))))
  (Qh (Qp (Qy (Qa (Qz Xb rfl M.tuple_ Xp (Qa (pv 2) Qc)) (Qa (Qo Qm (pv 0) Qe) Qc))))))),?_⟩
 refine Ji ?_;intros
 exists"z"
 have lt:=T.length
 exists Z1 1,fun W N=>?_
 have O:Same H (upd H W (.lst [.int 0])):=Qb N _
 exists 4,u,4,.inl (O.seq l),W,7,upd_same,Om,?_,?_,fun m g=>?_
 .rw[jQ,Vd];lia
 .rw[jQ,Vd,kJf];lia
 have J:=O.trans (Qb g (.lst (qg (Int.toNat ((((tI t).map V.int).length:Nat):Int)) [V.int 0]).flatten))
 have e0:(qg (Int.toNat ((((tI t).map V.int).length:Nat):Int)) [V.int 0]).flatten=(put row.1 t 0).map V.int:=by
  rw[rep1,jQ,Vd]
  show _=(qg t.length 0).map V.int
  rw[List.map_replicate]
  rfl
 let R:Nat->St->Hp->Prop:=fun i I B=>∃v w:Option V,I=[some (.ref r),some (.ref u),some (.ref m),v,w]/\B m=some (.lst ((put row.1 t i).map V.int))/\Same H B
 exists 4,r,8,J.tup D,at0,4,p,u,rfl,⟨_,J.tup G⟩,⟨_,J.seq l⟩,Qul (K:=K) (m1:=false) (m2:=true) (a:=p) (b:=u) (xs:=row.1.map V.int) (ys:=(tI t).map V.int) R ⟨none,none,rfl,?_,J⟩ (fun i I B _ h=>?_) ?_ ?_
 .rw[upd_same,e0]
 .obtain⟨v,w,rfl,c,d⟩:=h
  exists d.tup G,d.seq l
 .rintro i x y I B Y e1 e2 ⟨v,w,rfl,c,d⟩ X
  obtain⟨x,ex,rfl⟩:=Yf e1
  obtain⟨y,ey,rfl⟩:=Yf e2
  obtain⟨k,U,rfl⟩:=Quo ey
  have Z:m≠Y:=Qi c X
  exists Y,4,Qn upd_same,rfl,_,4,7,?_
  exists 4,4,4,m,_,_,k,rfl,rfl,by rw[Qj Z];exact c,Qby (by rw[jQ,Qaj,lt];exact T.lt U),_,_,rfl,?_,fun b o e=>?_
  .rw[upd_same,Qjj ex U,kXa]
  .have nb:b≠m:=fun z=>by subst z;rw[O _ _ e]at g;cases g
   rw[Qj nb,Qj (Qi (d _ _ e) X)]
   exact d _ _ e
 .rintro I B ⟨v,w,rfl,c,d⟩
  have em:min (row.1.map V.int).length ((tI t).map V.int).length=n:=by rw[jQ,jQ,Vd];lia
  rw[em]at c
  exists 4,m,4,.inl ⟨Qg c,fun w hw=>?_⟩
  have S:=d.trans (Qb hw (.tup ((put row.1 t n).map V.int)))
  exists 4,r,8,S.tup D,at1,Z1 2,fun r' C=>?_
  exact q r' _ (S.trans (Qb C _)) ⟨w,Qn upd_same,Qn (by rw[Qj (Qi upd_same C)];exact upd_same)⟩
theorem scKeepsT:FnScope ["problem","turn","rows","costs"] ["problem","turn"] (Qf Qcr):=Sc
theorem Qrs(F:Fn K mg "turn_keeps" Qcr)(M:Mg mg)(G:qC 1 "turned" ["row","turn"] (Qjk K)):qC 2 "turn_keeps" ["problem","turn"] (spKT K):=by
 refine Xf F scKeepsT (a:=fun f ao A aj s H vs Q E hr h=>?_)
 obtain⟨p,u,rs,cs,n,t,rfl,pr,I,T,hn,ag,av,ap,q⟩:=h
 have U:=Z6 6 hr.un
 refine⟨_,(Qd (Z4 2 scKeepsT.nd (Qo Qm (pv 0) Qe))
  (Qd (Z4 3 scKeepsT.nd (Qo Qm (pv 0) Qe))
  (Qd (Xg (Xl (Qk (Qgi rfl) rfl M.any Qtg (Qa (Zn ["cost","place","costs"] [none,none,some 3] rfl (Qmz false true rfl M.zip_ (Qa (pv 3) (Qa (pv 1) Qc))) (fun _ _ _=>(Yb (K:=K) (i:=0) (j:=1) rfl rfl (show(["cost","place","costs"]:List Str).Nodup by decide +kernel) rfl rfl rfl rfl)) (fun _ _ _=>Yc) (fun _ _ _=>(Xz Qah (pv 0) (Qo (Zz (K:=K) rfl) (pv 2) (pv 1)) (Qs _)))) Qc))) (Qh (Qp Qbp)) Qq)
  (Qh (Qp (Xz (Qnc (n:=6) U) (Qk (Js (K:=K) rfl U) rfl M.sorted Kd (Qa (Zn ["row","turn"] [none,some 1] rfl (Xq (pv 2)) (fun _ _ _=>(Z3 0 (show(["row","turn"]:List Str).Nodup by decide +kernel))) (fun _ _ _=>Yc) (fun _ _ _=>(Xc G (hr.mono Dc) (Qa (pv 0) (Qa (pv 1) Qc))))) Qc)) (Qk (Js (K:=K) rfl U) rfl M.sorted Kd (Qa (pv 2) Qc)) (Qs _))))))),?_⟩
 refine Jj ?_;intros
 exists"z"
 obtain⟨l,c,vs,ht,hl,X,W⟩:=id pr
 have lt:=T.length
 have lv:=X.length
 exists 4,p,8,ht,at0,?_
 exists 4,p,8,ht,at1,?_
 exists 4,4,c,u,rfl,⟨_,W⟩,⟨_,I⟩,fun D hD=>?_
 let af:Nat->St->List V->Hp->Prop:=fun i C g N=>∃u' v':Option V,C=[u',v',some (.ref c)]/\g=((List.range i).map fun j=>!decide (cs.getD j 0=cs.getD (t.getD j 0) 0)).map V.bl/\N D=some (.lst g)/\Same H N
 refine Yg (n:=n) af ?_ (fun i C g N hi h=>?_) (fun i C g N hi h=>?_) (fun C g N h=>?_) ?_ ?_
 .exact⟨none,none,rfl,rfl,upd_same,Qb hD _⟩
 .obtain⟨u',v',rfl,rfl,m,a⟩:=h
  exists m,by rw[jQ,jQ,jXb];lia
 .obtain⟨u',v',rfl,rfl,m,a⟩:=h
  have i1:i<cs.length:=Om
  have i2:i<(tI t).length:=by rw[Vd];lia
  exists _,_,.int cs[i],.int (tI t)[i],a.tup W,a.seq I,by rw[jZ,gE i1];rfl,by rw[jZ,gE i2];rfl
 .obtain⟨u',v',rfl,rfl,m,a⟩:=h
  exists _,_,a.tup W,a.seq I,by rw[jQ,jQ,Vd];lia
 .rintro i C g N x O hi ⟨u',v',rfl,rfl,m,a⟩ ⟨T',x1,y1,rfl,hT,rfl,e1,e2⟩
  obtain⟨x,ex,rfl⟩:=Yf (e1 _ (a.tup W))
  obtain⟨y,ey,rfl⟩:=Yf (e2 _ (a.seq I))
  obtain⟨k,ek,rfl⟩:=Quo ey
  have sT:=Qb hT (.tup [.int x,.int ((k:Nat):Int)])
  have L:=sT _ _ m
  exists T',4,Qn upd_same,rfl,_,4,7,?_
  exists 4,4,4,c,8,sT.tup (a.tup W),atK6 (by have:=T.lt ek;lia),rfl,L,_,4,?_,upd_same,fun b o e=>?_
  .rw[jZd,kY,kY,xX,xX,kYa,Qfc ex,Qkb ek,Qka]
   rfl
  .rw[Qj (Qi e hD)];exact sT _ _ (a _ _ e)
 rintro C g N ⟨u',v',rfl,rfl,m,a⟩
 exists D,4,Qg m,4,ite2 (fun y=>?_) (fun y=>?_)
 .refine q false N a ⟨fun z=>(nomatch z),fun z=>Y21 z.1 (any_no.mp y)⟩
 .have ok:Qjz cs t n:=Classical.byContradiction fun z=>y (any_no.mpr z)
  exists 4,l,rfl,⟨_,a.seq hl⟩,fun D2 L=>?_
  let ak:Nat->St->List V->Hp->Prop:=fun i C g O=>∃v:Option V,C=[v,some (.ref u)]/\RowsAre K O g ((rs.take i).map (ledR t n))/\O D2=some (.lst g)/\Same N O
  refine Yg (n:=rs.length) ak ?_ (fun i C g O hi h=>?_) (fun i C g O hi h=>?_) (fun C g O h=>?_) ?_ ?_
  .exact⟨none,rfl,.nil,upd_same,Qb L _⟩
  .obtain⟨v,rfl,d,B,J⟩:=h
   have:=d.length
   rw[jQ,yY]at this
   exists B,Om
  .obtain⟨v,rfl,d,B,J⟩:=h
   exists vs,vs[i]'Om,(a.trans J).seq hl,gE Om
  .obtain⟨v,rfl,d,B,J⟩:=h
   exists vs,(a.trans J).seq hl,Om
  .rintro i C g O x H3 hi ⟨v,rfl,d,B,J⟩ ⟨rfl,e1⟩
   obtain⟨t',r,rfl,er,ae⟩:=X.get (e1 _ ((a.trans J).seq hl))
   exists 4,4,t',u,r,n,t,rfl,ae.same (a.trans J),(a.trans J).seq I,T,ag r (kK er),Om,fun r' H4 R rr=>?_
   have Y:=R _ _ B
   exists Y,4,?_,upd_same,fun b o e=>?_
   .rw[Zh er,kY]
    exact Qok (Qol Y (Vs R d)) (rr.upd Y)
   .rw[Qj (Qi e L)];exact R _ _ (J _ _ e)
  rintro C g O ⟨v,rfl,d,B,J⟩
  rw[wJ]at d
  have ly:=d.length
  rw[jQ]at ly
  have Z:=a.trans J
  exists D2,g,4,Qg B,d,Om,fun S ws qs hS ai aq pq sq=>?_
  have s3:=Qb hS (.lst ws)
  exists 4,l,vs,rs,rfl,(Z.trans s3).seq hl,Vs (Z.trans s3) X,Om,fun S2 ah al ad ab am aa ac=>?_
  have R:=Qb ad (.lst ah)
  exists S,S2,7,RowsAre.hasD (Qg (R _ _ upd_same)) (Vs (s3.trans R) ai),RowsAre.hasD (Qg upd_same) (Vs R ab),Qgm qs al,fun c W=>q c _ ((Z.trans s3).trans R) ?_
  rw[W,rowsD_inj]
  constructor
  .rintro rfl
   exists ok,pq.symm.trans aa
  .intro h
   exact Qap (pq.trans (h.2.trans aa.symm)) sq ac
abbrev Qfe:Stmt:=top 24
abbrev Qrt:Stmt:=top 25
abbrev Qkc:Stmt:=top 26
abbrev Qbj:Stmt:=top 27
abbrev Rw:=List Int×Int
def rowK(rs:List Rw)(k:Nat):Rw:=rs.getD k ([],0)
def Qtm(rs:List Rw):List Dt->Option Rw
 |[_,d]=>(numT rs.length d).map (rowK rs)
 |_=>none
def tLow(n:Nat):List Dt->Option Rw
 |[_,d]=>(numT n d).map fun c=>Yk n c 1 0
 |_=>none
def tHigh(n:Nat):List Dt->Option Rw
 |[_,d]=>(numT n d).map fun c=>Yk n c (-1) (-1)
 |_=>none
def Qon(cs:List Int)(best:Option Int):List Dt->Option Rw
 |[_]=>best.map (Vi cs)
 |_=>none
def rowO(told:List (Option Rw))(k:Nat):Rw:=(told.getD k none).getD ([],0)
def partsOf(told:List (Option Rw))(qs:List (Nat×Int)):List Part:=qs.map fun p=>(rowO told p.1,p.2)
def sumD(n:Nat)(told:List (Option Rw)):Dt->Option Rw
 |.lst (d::r)=>(allT (ptT told) (d::r)).map fun qs=>Yq n (partsOf told qs)
 |_=>none
def tSum(n:Nat)(told:List (Option Rw)):List Dt->Option Rw
 |[_,d]=>sumD n told d
 |_=>none
def divides(r:Rw)(b:Int):Bool:=r.1.all fun x=>decide (x % b=0)
def Qdr(told:List (Option Rw))(d:Dt):Dt->Option Rw
 |.int b=>if 1<=b then(nmT told d).bind fun k=>if divides (rowO told k) b=true then some (Vp (rowO told k) b)else none else none
 |_=>none
def Qtn(told:List (Option Rw)):List Dt->Option Rw
 |[_,d,e]=>Qdr told d e
 |_=>none
def Qaa(r:Rw)(hs:List (Int×Int)):Int:=Vz (dOf hs) r.1 r.1.length
def tShut(n:Nat)(told:List (Option Rw)):List Dt->Option Rw
 |[_,d,e]=>(nmT told d).bind fun k=>(Je n e).bind fun hs=>if Qaa (rowO told k) hs<(rowO told k).2 then some (Jw n hs)else none
 |_=>none
def Qoo(n:Nat)(told:List (Option Rw)):List Dt->Option Rw
 |[_,d,e,f]=>(nmT told d).bind fun i=>(nmT told e).bind fun j=>(numT n f).bind fun c=>if Xi (rowO told i).1 c=Xi (rowO told j).1 c then some (Ke (rowO told i) (rowO told j) c)else none
 |_=>none
open Classical in
def tLike(rs:List Rw)(cs:List Int):List Dt->Option Rw
 |[_,d]=>(Ww cs.length d).bind fun t=>if Ks rs cs t cs.length then some (Vj t)else none
 |_=>none
def Jf(w:Str)(rs:List Rw)(cs:List Int)(best:Option Int)(told:List (Option Rw))(xs:List Dt):Option Rw :=
 if w="given" then Qtm rs xs else if w="low" then tLow cs.length xs else if w="high" then tHigh cs.length xs else if w="better" then Qon cs best xs
 else if w="sum" then tSum cs.length told xs else if w="share" then Qtn told xs else if w="shut" then tShut cs.length told xs else if w="either" then Qoo cs.length told xs
 else if w="like" then tLike rs cs xs else none
def lenW(w:Str):Option Nat :=
 if w="given" then some 2 else if w="low" then some 2 else if w="high" then some 2 else if w="better" then some 1
 else if w="sum" then some 2 else if w="share" then some 3 else if w="shut" then some 3 else if w="either" then some 4
 else if w="like" then some 2 else none
inductive Sm:Dt->Prop
 |non:Sm .non
 |bl (b:_):Sm (.bl b)
 |str (s:_):Sm (.str s)
 |int (i:_):-(2 ^ 62)<i->i<2 ^ 62->Sm (.int i)
 |tup (xs:_):(∀x∈xs,Sm x)->Sm (.tup xs)
 |lst (xs:_):xs.length<60->(∀x∈xs,Sm x)->Sm (.lst xs)
def Xm:Option Int->V
 |none=>.non
 |some b=>.int b
def OptRows(K:Fg)(H:Hp):List V->List (Option Rw)->Prop:=Paired fun v o=>match o with | none=>v=.non | some r=>∃t,v=.ref t/\RowAt K H t r
theorem OptRows.same{told:List (Option Rw)}(h:OptRows K H ws told)(f:∀t r,RowAt K H t r->RowAt K H' t r):OptRows K H' ws told:=Paired.mapP h fun v o z=>by
 cases o with
 |none=>exact z
 |some r=>obtain⟨t,e,y⟩:=z;exists t,e,f t r y
structure Jx(K:Fg)(H:Hp)(t l:Addr)(rs:List Rw)(cs:List Int)(ws:List V)(told:List (Option Rw)):Prop where
 prob:ProbAt K H t rs cs
 lst:SqL K H l ws
 rows:OptRows K H ws told
 rl:∀r∈rs,r.1.length=cs.length
 tl:∀r,some r∈told->r.1.length=cs.length
 n:cs.length<=50
 m:rs.length<60
 k:told.length<=2000
theorem Jx.row{t:Addr}{rs:List Rw}{told:List (Option Rw)}(h:Jx K H t l rs cs ws told){k:Nat}(c:k<told.length/\(told.getD k none).isSome=true):∃a,ws[k]?=some (.ref a)/\RowAt K H a (rowO told k)/\(rowO told k).1.length=cs.length:=by
 have m:=Paired.length h.rows
 have f:k<ws.length:=by have:=c.1;lia
 obtain⟨o,e,z⟩:=L2.Xw h.rows (gE f)
 have d:told.getD k none=o:=by rw[jY,e];rfl
 have b:=c.2
 rw[d]at b
 cases o with
 |none=>cases b
 |some r=>
  obtain⟨a,i,j⟩:=z
  have g:rowO told k=r:=by unfold rowO;rw[d];rfl
  rw[g]
  exists a,by rw[gE f,i],j,h.tl r (kK e)
theorem Jx.ne{t:Addr}{rs:List Rw}{told:List (Option Rw)}(h:Jx K H t l rs cs ws told):TNon ws told:=by
 exists Paired.length h.rows,fun i w e=>?_
 obtain⟨o,b,z⟩:=L2.Xw h.rows e
 have c:told.getD i none=o:=by rw[jY,b];rfl
 rw[c]
 cases o with
 |none=>exists fun _=>rfl,fun _=>z
 |some r=>obtain⟨a,rfl,_⟩:=z;exists fun z=>(nomatch z),fun z=>(nomatch z)
def okW(n:Nat)(w:Str)(xs:List Dt):Prop:=True
def okD(n:Nat)(d:Dt):Prop:=∀w xs,d=.tup (.str w::xs)->lenW w=some (xs.length+1)->okW n w (.str w::xs)
inductive Zr(K:Fg)(wd:Str)(vs:List V)(H:Hp)(Q:VK)(E:XK):Prop|mk(t l ln:Addr)(rs:List Rw)(cs:List Int)(best:Option Int)(ws:List V)(told:List (Option Rw))(us:List V)(xs:List Dt)(_:vs=[.ref t,Xm best,.ref l,.ref ln])(_:Jx K H t l rs cs ws told)(_:SqT K H ln us)(_:us.length=xs.length)(_:(∀(i:Nat) v x,us[i]?=some v->xs[i]?=some x->HasT K H v x))(_:(∀x∈xs,Sm x))(_:lenW wd=some xs.length)(_:okW cs.length wd xs)(_:(Jf wd rs cs best told xs=none->∀H',Same H H'->Q .non H'))(_:∀r,Jf wd rs cs best told xs=some r->∀t' H',Same H H'->RowAt K H' t' r->Q (.ref t') H'):Zr K wd vs H Q E
theorem Jm{i:Int}(h:HasT K H v (.int i)):v=.int i:=by cases h;rfl
theorem Sm.int_inv{i:Int}(h:Sm (.int i)):-(2 ^ 62)<i/\i<2 ^ 62:=by cases h with | int _ a b=>exists a,b
theorem Sm.lst_inv{xs:List Dt}(h:Sm (.lst xs)):xs.length<60/\∀x∈xs,Sm x:=by cases h with | lst _ a b=>exists a,b
theorem Sm.tup_inv{xs:List Dt}(h:Sm (.tup xs)):∀x∈xs,Sm x:=by cases h with | tup _ a=>exact a
theorem big62{b:Int}(a:1<=b)(c:b<2 ^ 62):Big b:=xY (show b.natAbs<=2 ^ 62 by lia) Dk
theorem Qds{d:Dt}(h:Sm d):lenT d<60:=by
 cases h with
 |lst xs a b=>exact a
 |_=>show 0<60;decide
theorem Qhd{xs:List Dt}(h:Ww n (.lst xs)=some t):allT (numT n) xs=some t/\t.Nodup/\t.length=n:=by
 have d:Qie n xs=some t:=h
 unfold Qie at d
 obtain⟨c,e,a⟩:=wQ.mp d
 by_cases b:c.Nodup/\c.length=n
 .rw[Y22 b]at a;cases a;exists e,b
 .rw[Y20 b]at a;cases a
theorem holds_of{xs:List Dt}(h:Je n (.lst xs)=some hs):allT (Ku n) xs=some hs/\(hs.map (·.1)).Nodup:=by
 have c:Qcj n xs=some hs:=h
 unfold Qcj at c
 obtain⟨e,d,a⟩:=wQ.mp c
 by_cases b:(e.map (·.1)).Nodup
 .rw[Y22 b]at a;cases a;exists d,b
 .rw[Y20 b]at a;cases a
theorem Qlt{d:Dt}(h:Je n d=some hs):∃xs,d=.lst xs:=by
 unfold Je at h
 split at h
 .exact⟨_,rfl⟩
 .cases h
theorem Qhe{d:Dt}(h:Ww n d=some t):∃xs,d=.lst xs:=by
 unfold Ww at h
 split at h
 .exact⟨_,rfl⟩
 .cases h
theorem Qru:FnScope (qB 0) (qB 0) (Qf Qfe):=Sc
theorem Qrv(F:Fn K mg "told_given" Qfe)(M:Mg mg)(b:qC 2 "is_number_of" ["thing","count"] (Vg K)):qC 4 "told_given" (qB 0) (Zr K "given"):=by
 refine Xf F Qru (fun _ _ _ _ _ _=>Qbb (fun _ _ _ _=>rfl)) (fun vs H Q E h=>?_) (fun f ac A B s H vs Q E hr h=>?_)
 .obtain⟨t,l,C,o,x,g,ws,i,Y,z,rfl,_⟩:=h
  rfl
 obtain⟨t,l,C,o,x,g,ws,i,Y,z,rfl,J,u,S,q,O,T,ad,N,I⟩:=h
 refine⟨_,(Qd (Xg (Xr (Xl (Xc b (hr.mono Dc) (Qa (Qo Qm (pv 3) Qe) (Qa (qL (Qo Qm (pv 0) Qe)) Qc))))) (Qh (Qp Xh)) Qq)
  (Qh (Qp (Qo ix_list (Qo Qm (pv 0) Qe) (Qo Qm (pv 3) Qe))))),?_⟩
 obtain⟨U,c0,c,ht,p,j,aa⟩:=id J.prob
 have D:=j.length
 have ab:=J.rows.length
 have X:=J.n
 have W:=J.m
 have y:=J.k
 have lc:(x.map V.int).length=x.length:=jQ ..
 have R:z.length=2:=(Y5 (show some 2=some z.length from T)).symm
 obtain⟨L,d,rfl⟩:∃L d,z=[L,d]:=len2 R
 obtain⟨v0,v,rfl⟩:∃v0 v,Y=[v0,v]:=len2 S
 have Z:=q 1 v d rfl rfl
 have m1:=O d (List.Mem.tail _ (List.Mem.head _))
 have eq:Jf "given" o x g i [L,d]=(numT o.length d).map (rowK o):=rfl
 rw[eq]at N I
 exists 4,C,8,u,(show atI _ ((1:Nat):Int)=some _ from Yy rfl),4,t,8,ht,at0,U,4,.inl p,v,d,c.length,rfl,Z,4,?_
 rw[D]
 cases e:numT o.length d with
 |none=>rw[e]at N;exact iteT (N rfl H (Same.refl H))
 |some k=>
  rw[e]at I
  obtain⟨rfl,hk⟩:=Zb e
  obtain rfl:=Jm Z
  obtain⟨a,r,e1,e2,G⟩:=j.get (gE (show k<c.length by lia))
  refine iteF ⟨_,rfl,t,_,_,_,rfl,rfl,ht,at0,_,rfl,C,_,_,_,rfl,rfl,u,(show atI _ ((1:Nat):Int)=some _ from Yy rfl),U,_,_,_,rfl,rfl,p,Yy (show c[k]?=some (.ref a)by rw[gE (show k<c.length by lia),e1]),I _ rfl a H (Same.refl H) ?_⟩
  have e3:rowK o k=r:=by unfold rowK;rw[jY,e2];rfl
  rw[e3]
  exact G
theorem scTLow:FnScope ["problem","best","told","line","count"] (qB 0) (Qf Qrt):=Sc
theorem okTLow(F:Fn K mg "told_low" Qrt)(M:Mg mg)(a:qC 2 "is_number_of" ["thing","count"] (Vg K))(b:qC 1 "single_row" ["count","choice","number","least"] (Qex K)):qC 4 "told_low" (qB 0) (Zr K "low"):=by
 refine Xf F scTLow (a:=fun f ae A x s H vs Q E R h=>?_)
 obtain⟨t,l,z,X,d,i,ws,j,U,v,rfl,J,q,N,p,I,O,ah,G,C⟩:=h
 refine⟨_,(Qd (Z4 4 scTLow.nd (qL (Qo Qm (pv 0) Qe)))
  (Qd (Xg (Xr (Xl (Xc a (R.mono Dc) (Qa (Qo Qm (pv 3) Qe) (Qa (pv 4) Qc))))) (Qh (Qp Xh)) Qq)
  (Qh (Qp (Xc b (R.mono Dc) (Qa (pv 4) (Qa (Qo Qm (pv 3) Qe) (Qa Qe (Qa Qe Qc))))))))),?_⟩
 refine Ji ?_;intros
 obtain⟨l0,c0,af,ht,aa,o,y⟩:=id J.prob
 have ac:=o.length
 have ad:=J.rows.length
 have T:=J.n
 have S:=J.m
 have u:=J.k
 have lc:(d.map V.int).length=d.length:=jQ ..
 have L:v.length=2:=(Y5 (show some 2=some v.length from O)).symm
 obtain⟨D,g,rfl⟩:∃D g,v=[D,g]:=len2 L
 obtain⟨Y,r,rfl⟩:∃Y r,U=[Y,r]:=len2 N
 have W:=p 1 r g rfl rfl
 have m1:=I g (List.Mem.tail _ (List.Mem.head _))
 have Z:Jf "low" X d i j [D,g]=(numT d.length g).map fun c=>Yk d.length c 1 0:=rfl
 rw[Z]at G C
 exists 4,t,8,ht,at1,c0,4,.inr y,?_
 rw[lc]
 exists 4,z,8,q,(show atI _ ((1:Nat):Int)=some _ from Yy rfl),4,r,g,d.length,rfl,W,4,?_
 cases e:numT d.length g with
 |none=>rw[e]at G;exact iteT (G rfl H (Same.refl H))
 |some k=>
  rw[e]at C
  obtain⟨rfl,hk⟩:=Zb e
  obtain rfl:=Jm W
  exact iteF ⟨_,rfl,_,rfl,z,_,_,_,rfl,rfl,q,(show atI _ ((1:Nat):Int)=some _ from Yy rfl),d.length,k,_,_,rfl,hk,Om,fun t' H' s' B=>C _ rfl t' H' s' B⟩
theorem scTHigh:FnScope ["problem","best","told","line","count"] (qB 0) (Qf Qkc):=Sc
theorem Qva(F:Fn K mg "told_high" Qkc)(M:Mg mg)(a:qC 2 "is_number_of" ["thing","count"] (Vg K))(b:qC 1 "single_row" ["count","choice","number","least"] (Qex K)):qC 4 "told_high" (qB 0) (Zr K "high"):=by
 refine Xf F scTHigh (a:=fun f ae A x s H vs Q E R h=>?_)
 obtain⟨t,l,z,X,d,i,ws,j,U,v,rfl,J,q,N,p,I,O,ah,G,C⟩:=h
 refine⟨_,(Qd (Z4 4 scTHigh.nd (qL (Qo Qm (pv 0) Qe)))
  (Qd (Xg (Xr (Xl (Xc a (R.mono Dc) (Qa (Qo Qm (pv 3) Qe) (Qa (pv 4) Qc))))) (Qh (Qp Xh)) Qq)
  (Qh (Qp (Xc b (R.mono Dc) (Qa (pv 4) (Qa (Qo Qm (pv 3) Qe) (Qa (Wi Jr Qe) (Qa (Wi Jr Qe) Qc))))))))),?_⟩
 refine Ji ?_;intros
 obtain⟨l0,c0,af,ht,aa,o,y⟩:=id J.prob
 have ac:=o.length
 have ad:=J.rows.length
 have T:=J.n
 have S:=J.m
 have u:=J.k
 have lc:(d.map V.int).length=d.length:=jQ ..
 have L:v.length=2:=(Y5 (show some 2=some v.length from O)).symm
 obtain⟨D,g,rfl⟩:∃D g,v=[D,g]:=len2 L
 obtain⟨Y,r,rfl⟩:∃Y r,U=[Y,r]:=len2 N
 have W:=p 1 r g rfl rfl
 have m1:=I g (List.Mem.tail _ (List.Mem.head _))
 have Z:Jf "high" X d i j [D,g]=(numT d.length g).map fun c=>Yk d.length c (-1) (-1):=rfl
 rw[Z]at G C
 exists 4,t,8,ht,at1,c0,4,.inr y,?_
 rw[lc]
 exists 4,z,8,q,(show atI _ ((1:Nat):Int)=some _ from Yy rfl),4,r,g,d.length,rfl,W,4,?_
 cases e:numT d.length g with
 |none=>rw[e]at G;exact iteT (G rfl H (Same.refl H))
 |some k=>
  rw[e]at C
  obtain⟨rfl,hk⟩:=Zb e
  obtain rfl:=Jm W
  exact iteF ⟨_,rfl,_,rfl,z,_,_,_,rfl,rfl,q,(show atI _ ((1:Nat):Int)=some _ from Yy rfl),_,rfl,_,rfl,d.length,k,_,_,rfl,hk,Om,fun t' H' s' B=>C _ rfl t' H' s' B⟩
theorem Qop:FnScope (qB 0) (qB 0) (Qf Qbj):=Sc
theorem Qoq(F:Fn K mg "told_better" Qbj)(M:Mg mg)(c:qC 1 "is_whole" ["thing"] (Vf K))(a:qC 1 "better_row" ["problem","best"] (Qjy K)):qC 2 "told_better" (qB 0) (Zr K "better"):=by
 refine Xf F Qop (fun _ _ _ _ _ _=>Qbb (fun _ _ _ _=>rfl)) (fun T H Q E h=>?_) (fun f aa A p s H T Q E z h=>?_)
 .obtain⟨t,l,U,u,g,d,ws,e,G,o,rfl,_⟩:=h
  rfl
 obtain⟨t,l,U,u,g,d,ws,e,G,o,rfl,J,ad,x,B,ac,y,ae,L,I⟩:=h
 refine⟨_,(Qd (Xg (Xr (Xl (Xc c (z.mono Dc) (Qa (pv 1) Qc)))) (Qh (Qp Xh)) Qq)
  (Qh (Qp (Xc a (z.mono Dc) (Qa (pv 0) (Qa (pv 1) Qc)))))),?_⟩
 obtain⟨l0,c0,ab,ht,R,i,S⟩:=id J.prob
 have Y:=i.length
 have Z:=J.rows.length
 have D:=J.n
 have C:=J.m
 have j:=J.k
 have lc:(g.map V.int).length=g.length:=jQ ..
 have v:o.length=1:=(Y5 (show some 1=some o.length from y)).symm
 obtain⟨r,rfl⟩:∃r,o=[r]:=len1 v
 obtain⟨N,rfl⟩:∃N,G=[N]:=len1 x
 have O:Jf "better" u g d e [r]=d.map (Vi g):=rfl
 rw[O]at L I
 cases d with
 |none=>exists 4,_,.non,rfl,.non,4,iteT (L rfl H (Same.refl H))
 |some b=>exists 4,_,.int b,rfl,.int b,4,iteF ⟨_,rfl,_,rfl,t,u,g,b,rfl,J.prob,Om,fun X W s' q=>I _ rfl X W s' q⟩
abbrev Qff:Stmt:=top 29
theorem scTShare:FnScope ["problem","best","told","line","by","row"] (qB 0) (Qf Qff):=Sc
theorem Qrw(F:Fn K mg "told_share" Qff)(M:Mg mg)(q:qC 3 "is_ahead" ["thing","told"] (Vh K))(j:qC 1 "is_whole" ["thing"] (Vf K))(g:qC 1 "share_row" ["row","by"] (Qof K)):qC 4 "told_share" (qB 0) (Zr K "share"):=by
 refine Xf F scTShare (a:=fun f am A ae s H vs Q E hr h=>?_)
 obtain⟨t,l,ln,rs,cs,G,ws,d,us,xs,rfl,J,O,af,N,W,ag,ax,u,U⟩:=h
 refine⟨_,(Qd (Z4 4 scTShare.nd (Qo Qm (pv 3) Qe))
  (Qd (Xg (PW.pt (Yx (Xr (Xl (Xc q (hr.mono Dc) (Qa (Qo Qm (pv 3) Qe) (Qa (pv 2) Qc))))) (Yx (Xr (Xl (Xc j (hr.mono Dc) (Qa (pv 4) Qc)))) (Yr (Qr Qft (pv 4) Qe (Qs _)))))) (Qh (Qp Xh)) Qq)
  (Qd (Z4 5 scTShare.nd (Qo ix_list (pv 2) (Qo Qm (pv 3) Qe)))
  (Qd (Xg (Xl (Qk (Qgi rfl) rfl M.any Qtg (Qa (Zn ["number","by"] [none,some 4] rfl (Qaw (Qo Qm (pv 5) Qe)) (fun _ _ _=>(Z3 0 (show(["number","by"]:List Str).Nodup by decide +kernel))) (fun _ _ _=>Yc) (fun _ _ _=>(Xz Qah (Qu Yl (pv 0) (pv 1)) Qe (Qs _)))) Qc))) (Qh (Qp Xh)) Qq)
  (Qh (Qp (Xc g (hr.mono Dc) (Qa (pv 5) (Qa (pv 4) Qc))))))))),?_⟩
 refine Wv ?_;intros
 obtain⟨l0,c0,ap,ht,an,Y,ak⟩:=id J.prob
 have ao:=Y.length
 have av:=Paired.length J.rows
 have aj:=J.n
 have ai:=J.m
 have aa:=J.k
 have lc:(cs.map V.int).length=cs.length:=jQ ..
 have ad:xs.length=3:=(Y5 (show some 3=some xs.length from ag)).symm
 obtain⟨d0,B,C,rfl⟩:∃d0 B C,xs=[d0,B,C]:=len3 ad
 obtain⟨v0,Z,v2,rfl⟩:∃v0 Z v2,us=[v0,Z,v2]:=len3 af
 have h1:=N 1 Z B rfl rfl
 have m1:=W B (List.Mem.tail _ (List.Mem.head _))
 have h2:=N 2 v2 C rfl rfl
 have m2:=W C (List.Mem.tail _ (List.Mem.tail _ (List.Mem.head _)))
 have eq:Jf "share" rs cs G d [d0,B,C]=Qdr d B C:=rfl
 rw[eq]at u U
 exists 4,ln,8,O,(show atI _ ((2:Nat):Int)=some _ from Yy rfl),?_
 exists 4,ln,8,O,(show atI _ ((1:Nat):Int)=some _ from Yy rfl),4,Z,B,l,ws,d,rfl,h1,J.lst,J.ne,4,?_
 cases e:nmT d B with
 |none=>
  have:Qdr d B C=none:=by
   unfold Qdr
   split
   .split
    .rw[e];rfl
    .rfl
   .rfl
  exact iteT (iteT (u this H (Same.refl H)))
 |some k=>
  obtain⟨rfl,hk⟩:=Kk e
  obtain rfl:=Jm h1
  refine iteF ⟨_,rfl,v2,C,rfl,h2,_,rfl,?_⟩
  cases C with
  |int b=>
   obtain rfl:=Jm h2
   obtain⟨b1,b2⟩:=m2.int_inv
   have eD:Qdr d (.int ((k:Nat):Int)) (.int b)=if 1<=b then(if divides (rowO d k) b=true then some (Vp (rowO d k) b)else none)else none:=by
    show(if 1<=b then _ else _)=_
    rw[e]
    rfl
   rw[eD]at u U
   refine iteF ⟨_,rfl,_,_,rfl,rfl,_,rfl,ite2 (fun c=>?_) (fun c=>?_)⟩
   .have c':b<1:=yQ c
    exact u (Y20 Om) H (Same.refl H)
   .have c':¬b<1:=fun z=>c (yJ z)
    rw[Y22 Om]at u U
    obtain⟨a,ea,S,ac⟩:=J.row hk
    obtain⟨p,r1,X⟩:=id S
    exists 4,4,ln,8,O,(show atI _ ((1:Nat):Int)=some _ from Yy rfl),l,8,J.lst,Yy ea,?_
    exists 4,a,8,r1,at0,p,rfl,⟨_,X⟩,fun D hD=>?_
    generalize aq:rowO d k=r at u U r1 X ac S
    let ab:Nat->St->List V->Hp->Prop:=fun i T R I=>∃v:Option V,T=[v,some (.int b)]/\R=((r.1.map fun x=>!decide (x % b=0)).take i).map V.bl/\I D=some (.lst R)/\Same H I
    refine Yg (n:=r.1.length) ab ?_ (fun i T R I hi h=>?_) (fun i T R I hi h=>?_) (fun T R I h=>?_) ?_ ?_
    .exact⟨none,rfl,rfl,upd_same,Qb hD _⟩
    .obtain⟨v,rfl,rfl,L,y⟩:=h
     exists"z"
     exists L,by rw[jQ,yY];lia
    .obtain⟨v,rfl,rfl,L,y⟩:=h
     exists _,.int r.1[i],y.tup X,by rw[jZ,gE hi];rfl
    .obtain⟨v,rfl,rfl,L,y⟩:=h
     exists _,y.tup X,by rw[jQ];exact jJ _
    .rintro i T R I x H2 hi ⟨v,rfl,rfl,L,y⟩ ⟨rfl,e1⟩
     obtain⟨z,ez,rfl⟩:=Yf (e1 _ (y.tup X))
     exists 4,4,7,Om,rfl,L,4,?_,upd_same,fun b' o e=>?_
     .rw[Zh (show(r.1.map fun x=>!decide (x % b=0))[i]?=some (!decide (z % b=0))by rw[jZ,ez];rfl),kY]
      have:decide (V.int (z % b)=V.int 0)=decide (z % b=0):=decide_eq_decide.mpr ⟨V.int.inj,congrArg V.int⟩
      show _++[V.bl (!decide (V.int (z % b)=V.int 0))]=_
      rw[this]
      rfl
     .rw[Qj (Qi e hD)];exact y _ _ e
    .rintro T R I ⟨v,rfl,rfl,L,y⟩
     rw[zX (by rw[jQ];exact jJ _)]at L
     exists D,4,Qg L,4,?_
     have ed:((r.1.map fun x=>!decide (x % b=0)).any id)=!divides r b:=by
      unfold divides
      rw[List.any_map,List.all_eq_not_any_not,Bool.not_not]
      rfl
     rw[ed]
     by_cases hd:divides r b=true
     .rw[hd]
      rw[Y22 hd]at U
      exact iteF ⟨_,rfl,_,rfl,a,r,b,rfl,S.same y,Om,Om,big62 Om b2,fun t' H' s' ah=>U _ rfl t' H' (y.trans s') ah⟩
     .rw[Y20 hd]at u
      have:divides r b=false:=by cases h9:divides r b with | true=>exact Y21 h9 hd | false=>rfl
      rw[this]
      exact iteT (u rfl I y)
  |non=>exact iteT (iteT (u rfl H (Same.refl H)))
  |bl b=>exact iteT (iteT (u rfl H (Same.refl H)))
  |str b=>exact iteT (iteT (u rfl H (Same.refl H)))
  |tup b=>exact iteT (iteT (u rfl H (Same.refl H)))
  |lst b=>exact iteT (iteT (u rfl H (Same.refl H)))
abbrev Qkd:Stmt:=top 30
theorem scTShut:FnScope ["problem","best","told","line","count","holds","row"] (qB 0) (Qf Qkd):=Sc
theorem Qvb(F:Fn K mg "told_shut" Qkd)(M:Mg mg)(v:qC 3 "is_ahead" ["thing","told"] (Vh K))(o:qC 4 "are_holds" ["thing","count"] (Qdo K))(x:qC 1 "most_of" ["row","holds"] (Qtl K))(u:qC 1 "shut_row" ["count","holds"] (Qhb K)):qC 5 "told_shut" (qB 0) (Zr K "shut"):=by
 refine Xf F scTShut (a:=fun f ax A ak s H vs Q E hr h=>?_)
 obtain⟨t,l,ln,rs,i,I,ws,d,us,xs,rfl,J,R,am,N,Y,an,S,W,qs⟩:=h
 refine⟨_,(Qd (Z4 4 scTShut.nd (qL (Qo Qm (pv 0) Qe)))
  (Qd (Z4 5 scTShut.nd (Qo Qm (pv 3) Qe))
  (Qd (Xg (PW.pt (Yx (Xr (Xl (Xc v (hr.mono Dc) (Qa (Qo Qm (pv 3) Qe) (Qa (pv 2) Qc))))) (Yr (Xr (Xl (Xc o (hr.mono Dc) (Qa (pv 5) (Qa (pv 4) Qc)))))))) (Qh (Qp Xh)) Qq)
  (Qd (Z4 6 scTShut.nd (Qo ix_list (pv 2) (Qo Qm (pv 3) Qe)))
  (Qd (Xg (Qr Qfu (Xc x (hr.mono Dc) (Qa (pv 6) (Qa (pv 5) Qc))) (Qo Qm (pv 6) Qe) (Qs _)) (Qh (Qp Xh)) Qq)
  (Qh (Qp (Xc u (hr.mono Dc) (Qa (pv 4) (Qa (pv 5) Qc)))))))))),?_⟩
 refine Qrd ?_;intros
 obtain⟨l0,c0,aB,ht,ay,ab,ae⟩:=id J.prob
 have aA:=ab.length
 have aI:=Paired.length J.rows
 have av:=J.n
 have au:=J.m
 have ad:=J.k
 have lc:(i.map V.int).length=i.length:=jQ ..
 have aj:xs.length=3:=(Y5 (show some 3=some xs.length from an)).symm
 obtain⟨d0,L,B,rfl⟩:∃d0 L B,xs=[d0,L,B]:=len3 aj
 obtain⟨v0,v1,D,rfl⟩:∃v0 v1 D,us=[v0,v1,D]:=len3 am
 have h1:=N 1 v1 L rfl rfl
 have m1:=Y L (List.Mem.tail _ (List.Mem.head _))
 have G:=N 2 D B rfl rfl
 have m2:=Y B (List.Mem.tail _ (List.Mem.tail _ (List.Mem.head _)))
 have eq:Jf "shut" rs i I d [d0,L,B]=(nmT d L).bind fun k=>(Je i.length B).bind fun y=>if Qaa (rowO d k) y<(rowO d k).2 then some (Jw i.length y)else none:=rfl
 rw[eq]at W qs
 exists 4,t,8,ht,at1,c0,4,.inr ae,?_
 rw[lc]
 exists 4,ln,8,R,(show atI _ ((2:Nat):Int)=some _ from Yy rfl),?_
 exists 4,ln,8,R,(show atI _ ((1:Nat):Int)=some _ from Yy rfl),4,v1,L,l,ws,d,rfl,h1,J.lst,J.ne,4,?_
 cases e:nmT d L with
 |none=>rw[e]at W;exact iteT (iteT (W rfl H (Same.refl H)))
 |some k=>
  rw[e]at W qs
  obtain⟨rfl,hk⟩:=Kk e
  obtain rfl:=Jm h1
  have j:lenT B<1000:=by have:=Qds m2;lia
  have U:∀(q:Hp),Same H q->(Je i.length B=none->Q .non q):=fun q g C=>W (by show(Je i.length B).bind _=none;rw[C];rfl) q g
  cases C:Je i.length B with
  |none=>
   cases B with
   |tup T=>exact iteF ⟨_,rfl,_,rfl,D,_,i.length,rfl,G,j,fun q g=>⟨_,rfl,iteT (U q g rfl)⟩⟩
   |lst T=>exact iteF ⟨_,rfl,_,rfl,D,_,i.length,rfl,G,j,fun q g=>⟨_,rfl,by rw[C];exact iteT (U q g C)⟩⟩
   |non=>exact iteF ⟨_,rfl,_,rfl,D,_,i.length,rfl,G,j,fun q g=>⟨_,rfl,iteT (U q g rfl)⟩⟩
   |bl b=>exact iteF ⟨_,rfl,_,rfl,D,_,i.length,rfl,G,j,fun q g=>⟨_,rfl,iteT (U q g rfl)⟩⟩
   |str b=>exact iteF ⟨_,rfl,_,rfl,D,_,i.length,rfl,G,j,fun q g=>⟨_,rfl,iteT (U q g rfl)⟩⟩
   |int b=>exact iteF ⟨_,rfl,_,rfl,D,_,i.length,rfl,G,j,fun q g=>⟨_,rfl,iteT (U q g rfl)⟩⟩
  |some y=>
   obtain⟨T,rfl⟩:=Qlt C
   obtain⟨ea,aE⟩:=holds_of C
   obtain⟨al,ag,rfl,ap,Z,ah⟩:=G.lst_inv
   obtain⟨aq,S⟩:=Qdq (n:=i.length) Z ah ea
   have aD:=(m2.lst_inv).1
   have aC:y.length=T.length:=(Jl ea).1
   have ao:∀r,(if Qaa (rowO d k) y<(rowO d k).2 then some (Jw i.length y)else none)=some r->∀t' O,Same H O->RowAt K O t' r->Q (.ref t') O:=fun r er=>qs r (by show(Je i.length (.lst T)).bind _=some r;rw[C];exact er)
   have ai:(if Qaa (rowO d k) y<(rowO d k).2 then some (Jw i.length y)else none)=none->∀O,Same H O->Q .non O:=fun er=>W (by show(Je i.length (.lst T)).bind _=none;rw[C];exact er)
   refine iteF ⟨_,rfl,_,rfl,_,_,i.length,rfl,G,by show T.length<1000;lia,fun q g=>⟨_,rfl,?_⟩⟩
   rw[C]
   refine iteF ?_
   obtain⟨a,af,ac,az⟩:=J.row hk
   obtain⟨p,r1,r2⟩:=id ac
   have X:=g.tup R
   exists 4,4,ln,8,X,(show atI _ ((1:Nat):Int)=some _ from Yy rfl),l,8,g.seq J.lst,Yy af,?_
   have aa:HoldsAt K q al y:=⟨ag,g.seq ap,PairsAre.same g aq⟩
   exists 4,4,a,al,rowO d k,y,rfl,ac.same g,aa,Om,fun p hp=>(S p hp).2.2,fun H2 s2=>⟨_,rfl,a,_,_,_,rfl,rfl,(g.trans s2).tup r1,at1,_,_,rfl,rfl,_,rfl,ite2 (fun c=>?_) (fun c=>?_)⟩
   .have c':(rowO d k).2<=Qaa (rowO d k) y:=yQ c
    exact ai (Y20 Om) H2 (g.trans s2)
   .have c':¬(rowO d k).2<=Qaa (rowO d k) y:=fun z=>c (yJ z)
    exists 4,4,al,i.length,y,rfl,aa.same s2,S,Om,fun t' O s' ar=>ao _ (Y22 Om) t' O ((g.trans s2).trans s') ar
abbrev Qab:Stmt:=top 31
abbrev Qke:Stmt:=top 32
theorem scTEither:FnScope ["problem","best","told","line","choice","one","other"] (qB 0) (Qf Qab):=Sc
theorem Qor(F:Fn K mg "told_either" Qab)(M:Mg mg)(d:qC 3 "is_ahead" ["thing","told"] (Vh K))(g:qC 2 "is_number_of" ["thing","count"] (Vg K))(o:qC 1 "without" ["row","choice"] (Qcn K))(p:qC 2 "either_row" ["one","other","choice"] (Qco K)):qC 4 "told_either" (qB 0) (Zr K "either"):=by
 refine Xf F scTEither (a:=fun f au A ai s H vs Q E N h=>?_)
 obtain⟨t,l,U,rs,C,I,ws,a,us,xs,rfl,J,u,aj,x,O,ak,aE,W,qs⟩:=h
 have ae:=Z6 6 N.un
 refine⟨_,(Qd (Z4 4 scTEither.nd (Qo Qm (pv 3) Qe))
  (Qd (Xg (PW.pt (Yx (Xr (Xl (Xc d (N.mono Dc) (Qa (Qo Qm (pv 3) Qe) (Qa (pv 2) Qc))))) (Yr (Xr (Xl (Xc d (N.mono Dc) (Qa (Qo Qm (pv 3) Qe) (Qa (pv 2) Qc)))))))) (Qh (Qp Xh)) Qq)
  (Qd (Xg (Xr (Xl (Xc g (N.mono Dc) (Qa (pv 4) (Qa (qL (Qo Qm (pv 0) Qe)) Qc))))) (Qh (Qp Xh)) Qq)
  (Qd (Z4 5 scTEither.nd (Qo ix_list (pv 2) (Qo Qm (pv 3) Qe)))
  (Qd (Z4 6 scTEither.nd (Qo ix_list (pv 2) (Qo Qm (pv 3) Qe)))
  (Qd (Xg (Qr (Qgj (n:=6) ae) (Xc o (N.mono Dc) (Qa (pv 5) (Qa (pv 4) Qc))) (Xc o (N.mono Dc) (Qa (pv 6) (Qa (pv 4) Qc))) (Qs _)) (Qh (Qp Xh)) Qq)
  (Qh (Qp (Xc p (N.mono Dc) (Qa (pv 5) (Qa (pv 6) (Qa (pv 4) Qc)))))))))))),?_⟩
 refine Qeo ?_;intros
 obtain⟨l0,c0,ax,ht,av,Z,af⟩:=id J.prob
 have aw:=Z.length
 have aC:=Paired.length J.rows
 have aq:=J.n
 have ap:=J.m
 have ac:=J.k
 have lc:(C.map V.int).length=C.length:=jQ ..
 have ag:xs.length=4:=(Y5 (show some 4=some xs.length from ak)).symm
 obtain⟨d0,L,B,v,rfl⟩:∃d0 L B v,xs=[d0,L,B,v]:=len4 ag
 obtain⟨v0,v1,v2,v3,rfl⟩:∃v0 v1 v2 v3,us=[v0,v1,v2,v3]:=len4 aj
 have h1:=x 1 v1 L rfl rfl
 have m1:=O L (List.Mem.tail _ (List.Mem.head _))
 have h2:=x 2 v2 B rfl rfl
 have m2:=O B (List.Mem.tail _ (List.Mem.tail _ (List.Mem.head _)))
 have h3:=x 3 v3 v rfl rfl
 have m3:=O v (List.Mem.tail _ (List.Mem.tail _ (List.Mem.tail _ (List.Mem.head _))))
 have eq:Jf "either" rs C I a [d0,L,B,v]=(nmT a L).bind fun i=>(nmT a B).bind fun j=>(numT C.length v).bind fun c=>if Xi (rowO a i).1 c=Xi (rowO a j).1 c then some (Ke (rowO a i) (rowO a j) c)else none:=rfl
 rw[eq]at W qs
 exists 4,U,8,u,(show atI _ ((3:Nat):Int)=some _ from Yy rfl),?_
 exists 4,U,8,u,(show atI _ ((1:Nat):Int)=some _ from Yy rfl),4,v1,L,l,ws,a,rfl,h1,J.lst,J.ne,4,?_
 cases e:nmT a L with
 |none=>rw[e]at W;exact iteT (iteT (W rfl H (Same.refl H)))
 |some i=>
  rw[e]at W qs
  obtain⟨rfl,hi⟩:=Kk e
  obtain rfl:=Jm h1
  refine iteF ⟨_,rfl,U,_,_,_,rfl,rfl,u,(show atI _ ((2:Nat):Int)=some _ from Yy rfl),_,rfl,v2,B,l,ws,a,rfl,h2,J.lst,J.ne,_,rfl,?_⟩
  cases e2:nmT a B with
  |none=>exact iteT (W (by show(nmT a B).bind _=none;rw[e2];rfl) H (Same.refl H))
  |some j=>
   have an:=fun r R=>qs r (show(nmT a B).bind _=some r by rw[e2];exact R)
   have aa:=fun R=>W (show(nmT a B).bind _=none by rw[e2];exact R)
   obtain⟨rfl,hj⟩:=Kk e2
   obtain rfl:=Jm h2
   refine iteF ⟨_,rfl,_,rfl,t,_,_,_,rfl,rfl,ht,at1,c0,_,rfl,.inr af,v3,v,(C.map V.int).length,rfl,h3,_,rfl,?_⟩
   rw[lc]
   cases e3:numT C.length v with
   |none=>exact iteT (aa (by show(numT C.length v).bind _=none;rw[e3];rfl) H (Same.refl H))
   |some c=>
    have S:=fun r R=>an r (show(numT C.length v).bind _=some r by rw[e3];exact R)
    have T:=fun R=>aa (show(numT C.length v).bind _=none by rw[e3];exact R)
    obtain⟨rfl,hc⟩:=Zb e3
    obtain rfl:=Jm h3
    obtain⟨a1,ao,q,ab⟩:=J.row hi
    obtain⟨a2,ad,y,X⟩:=J.row hj
    refine iteF ⟨_,rfl,_,rfl,U,_,_,_,rfl,rfl,u,(show atI _ ((1:Nat):Int)=some _ from Yy rfl),l,_,_,_,rfl,rfl,J.lst,Yy ao,?_⟩
    exists 4,4,U,8,u,(show atI _ ((2:Nat):Int)=some _ from Yy rfl),l,8,J.lst,Yy ad,?_
    generalize rowO a i=one at S T q ab
    generalize rowO a j=other at S T y X
    exists 4,4,a1,one,c,rfl,q,Om,Om,fun p1 H1 s1 al=>?_
    exists 4,4,a2,other,c,rfl,y.same s1,Om,Om,fun p2 H2 s2 ah=>?_
    have G:=s1.trans s2
    exists p1,p2,7,Qum (s2.tup al),Qum ah,Qgl _ _,fun b hb=>?_
    have Y:b=true↔Xi one.1 c=Xi other.1 c:=by
     rw[hb]
     constructor
     .intro z
      have z1:(Xi one.1 c).map L2.D.int=(Xi other.1 c).map L2.D.int:=by injection z
      exact(List.map_inj_right (fun _ _ h=>by cases h;rfl)).mp z1
     .intro z;rw[z]
    cases b with
    |true=>exists 4,iteF ⟨_,rfl,_,rfl,_,rfl,a1,a2,one,other,c,rfl,q.same G,y.same G,Om,Om,fun t' H' s' am=>S _ (Y22 (Y.mp rfl)) t' H' (G.trans s') am⟩
    |false=>exists 4,iteT (T (Y20 fun z=>nomatch Y.mpr z) H2 G)
theorem scTLike:FnScope ["problem","best","told","line","turn"] (qB 0) (Qf Qke):=Sc
theorem Qvc(F:Fn K mg "told_like" Qke)(M:Mg mg)(o:qC 3 "is_turn" ["thing","count"] (Qjw K))(a:qC 2 "turn_keeps" ["problem","turn"] (spKT K))(g:qC 1 "like_row" ["turn"] (Qhc K)):qC 4 "told_like" (qB 0) (Zr K "like"):=by
 refine Xf F scTLike (a:=fun f au A aa s H vs Q E hr h=>?_)
 obtain⟨t,l,ln,X,c,u,ws,v,us,Y,rfl,J,ah,ai,L,ad,aj,ay,U,qs⟩:=h
 refine⟨_,(Qd (Z4 4 scTLike.nd (Qo Qm (pv 3) Qe))
  (Qd (Xg (PW.pt (Yx (Xr (Xl (Xc o (hr.mono Dc) (Qa (pv 4) (Qa (qL (Qo Qm (pv 0) Qe)) Qc))))) (Yr (Xr (Xl (Xc a (hr.mono Dc) (Qa (pv 0) (Qa (pv 4) Qc)))))))) (Qh (Qp Xh)) Qq)
  (Qh (Qp (Xc g (hr.mono Dc) (Qa (pv 4) Qc)))))),?_⟩
 refine Ji ?_;intros
 obtain⟨l0,C,aw,D,an,I,j⟩:=id J.prob
 have aq:=I.length
 have ar:=Paired.length J.rows
 have am:=J.n
 have ak:=J.m
 have W:=J.k
 have r:(c.map V.int).length=c.length:=jQ ..
 have ag:Y.length=2:=(Y5 (show some 2=some Y.length from aj)).symm
 obtain⟨d0,p,rfl⟩:∃d0 p,Y=[d0,p]:=len2 ag
 obtain⟨v0,q,rfl⟩:∃v0 q,us=[v0,q]:=len2 ai
 have B:=L 1 q p rfl rfl
 have m1:=ad p (List.Mem.tail _ (List.Mem.head _))
 have eq:Jf "like" X c u v [d0,p]=(Ww c.length p).bind fun t=>@ite _ (Ks X c t c.length) (Classical.propDecidable _) (some (Vj t)) none:=rfl
 rw[eq]at U qs
 exists 4,ln,8,ah,(show atI _ ((1:Nat):Int)=some _ from Yy rfl),?_
 have d:lenT p<64:=by have:=Qds m1;lia
 have G:∀(e:Hp),Same H e->(Ww c.length p=none->Q .non e):=fun e i y=>U (by rw[y];rfl) e i
 cases y:Ww c.length p with
 |none=>
  cases p with
  |lst Z=>exists 4,4,t,8,D,at1,C,4,.inr j,q,_,(c.map V.int).length,rfl,B,d,by rw[r];lia,fun e i=>⟨_,rfl,by rw[r,y];exact iteT (iteT (G e i y))⟩
  |tup Z=>exists 4,4,t,8,D,at1,C,4,.inr j,q,_,(c.map V.int).length,rfl,B,d,by rw[r];lia,fun e i=>⟨_,rfl,iteT (iteT (G e i rfl))⟩
  |non=>exists 4,4,t,8,D,at1,C,4,.inr j,q,_,(c.map V.int).length,rfl,B,d,by rw[r];lia,fun e i=>⟨_,rfl,iteT (iteT (G e i rfl))⟩
  |bl b=>exists 4,4,t,8,D,at1,C,4,.inr j,q,_,(c.map V.int).length,rfl,B,d,by rw[r];lia,fun e i=>⟨_,rfl,iteT (iteT (G e i rfl))⟩
  |str b=>exists 4,4,t,8,D,at1,C,4,.inr j,q,_,(c.map V.int).length,rfl,B,d,by rw[r];lia,fun e i=>⟨_,rfl,iteT (iteT (G e i rfl))⟩
  |int b=>exists 4,4,t,8,D,at1,C,4,.inr j,q,_,(c.map V.int).length,rfl,B,d,by rw[r];lia,fun e i=>⟨_,rfl,iteT (iteT (G e i rfl))⟩
 |some tn=>
  obtain⟨Z,rfl⟩:=Qhe y
  obtain⟨ea,af,x⟩:=Qhd y
  obtain⟨T,av,rfl,ab,S,ae⟩:=B.lst_inv
  obtain⟨ev,O⟩:=Qha (n:=c.length) S ae ea
  have ao:=(m1.lst_inv).1
  have hT:IsTurn c.length tn:=⟨Kr O af x⟩
  rw[y]at U qs
  exists 4,4,t,8,D,at1,C,4,.inr j,_,_,(c.map V.int).length,rfl,B,by show Z.length<64;lia,by rw[r];lia,fun e i=>⟨_,rfl,?_⟩
  rw[r,y]
  have N:SqL K e T ((tI tn).map V.int):=by show SqL K e T ((tn.map fun(k:Nat)=>(k:Int)).map V.int);rw[<-ev];exact i.seq ab
  refine iteF ⟨_,rfl,_,rfl,t,T,X,c,c.length,tn,rfl,J.prob.same i,N,hT,Om,J.rl,rfl,J.m,fun b H2 s2 hb=>⟨_,rfl,?_⟩⟩
  have R:=i.trans s2
  cases b with
  |true=>exact iteF ⟨_,rfl,T,tn,rfl,s2.seq N,Om,fun k hk=>by rw[x];exact O k hk,fun t' H' s' ac=>qs _ (show(some tn).bind _=some _ from Y22 (hb.mp rfl)) t' H' (R.trans s') ac⟩
  |false=>exact iteT (U (show(some tn).bind _=none from Y20 fun z=>nomatch hb.mpr z) H2 R)
abbrev Qrx:Stmt:=top 28
theorem parts_nil:Kl K H [] []:=⟨rfl,fun i v p e=>by simp at e⟩
theorem Qlu{ps:List Part}{T t:Addr}{p:Part}(h:Kl K H vs ps)(f:SqT K H T [.ref t,.int p.2])(e:RowAt K H t p.1):Kl K H (vs++[.ref T]) (ps++[p]):=by
 exists by rw[jV,jV,h.1];rfl,fun i v q a b=>?_
 by_cases d:i<vs.length
 .rw[xW d]at a
  rw[xW (by rw[<-h.1];exact d)]at b
  exact h.2 i v q a b
 .have c:i=vs.length:=by
   have:=(jW.mp a).1
   rw[jV]at this
   simp at this
   lia
  subst c
  rw[xJ (jJ _)]at a
  rw[xJ (by rw[h.1];exact jJ _),h.1]at b
  simp at a b
  subst a b
  exists T,t,rfl,f,e
theorem Qhf{ps:List Part}(f:∀a xs,SqT K H a xs->SqT K H' a xs)(h:Kl K H vs ps):Kl K H' vs ps :=
 ⟨h.1,fun i v p d c=>let ⟨T,t,a,b,q,c1,c2⟩:=h.2 i v p d c;⟨T,t,a,f _ _ b,q,f _ _ c1,f _ _ c2⟩⟩
theorem Qos{told:List (Option Rw)}{xs:List Dt}(q:vs.length=xs.length)(h:∀(i:Nat) v x,vs[i]?=some v->xs[i]?=some x->HasT K H v x)(n:∀x∈xs,Sm x)(e:allT (ptT told) xs=some qs)(c:vs[i]?=some v) :
  ∃T p,v=.ref T/\qs[i]?=some p/\SqT K H T [.int ((p.1:Nat):Int),.int p.2]/\(p.1<told.length/\(told.getD p.1 none).isSome=true)/\0<=p.2/\p.2<2 ^ 62:=by
 have o:i<vs.length:=(jW.mp c).1
 obtain⟨x,ex⟩:∃x,xs[i]?=some x:=⟨_,gE Om⟩
 obtain⟨p,f,j⟩:=(Jl e).2 i x ex
 obtain⟨rfl,l,k⟩:=Qet j
 obtain⟨T,a,b,rfl,d,g,m⟩:=(h i v _ c ex).pair_inv
 cases g
 cases m
 have:=(n _ (kK ex)).tup_inv (.int p.2) (by simp)
 exists T,p,rfl,f,d,l,k,this.int_inv.2
theorem Qry{told:List (Option Rw)}{xs:List Dt}(e:allT (ptT told) xs=some qs)(j:∀x∈xs,Sm x):∀p∈qs,(p.1<told.length/\(told.getD p.1 none).isSome=true)/\0<=p.2/\p.2<2 ^ 62:=by
 intro p c
 obtain⟨k,h⟩:=Jl e
 obtain⟨i,d,rfl⟩:=jJb.mp c
 obtain⟨x,ex⟩:∃x,xs[i]?=some x:=⟨_,gE Om⟩
 obtain⟨p,a,b⟩:=h i x ex
 rw[gE d]at a
 cases a
 obtain⟨rfl,g,f⟩:=Qet b
 exists g,f,((j _ (kK ex)).tup_inv (.int _) (by simp)).int_inv.2
theorem scTSum:FnScope ["problem","best","told","line","parts"] (qB 0) (Qf Qrx):=Sc
theorem okTSum(F:Fn K mg "told_sum" Qrx)(M:Mg mg)(I:qC 4 "is_part" ["thing","told"] (Qju K))(G:qC 1 "sum_row" ["count","parts"] (spSum K)):qC 5 "told_sum" (qB 0) (Zr K "sum"):=by
 refine Xf F scTSum (a:=fun f aJ A aw s H vs Q E hr h=>?_)
 obtain⟨t,l,ln,rs,cs,Y,ws,g,N,y,rfl,J,ap,az,af,ao,aB,ak,O,qs⟩:=h
 refine⟨_,(Qd (Z4 4 scTSum.nd (Qo Qm (pv 3) Qe))
  (Qd (Xg (PW.pt (Yx (Xr (Xl (Qk Xn rfl M.isinstance Qx (Qa (pv 4) (Qa (Jh M.list_ Yu) Qc))))) (Yr (Qr Yh (qL (pv 4)) Qe (Qs _))))) (Qh (Qp Xh)) Qq)
  (Qd (Xg (Xr (Xl (Qk (Qbx rfl) rfl M.all Qne (Qa (Zn ["part","told"] [none,some 2] rfl (Xq (pv 4)) (fun _ _ _=>(Z3 0 (show(["part","told"]:List Str).Nodup by decide +kernel))) (fun _ _ _=>Yc) (fun _ _ _=>(Xc I (hr.mono Dc) (Qa (pv 0) (Qa (pv 1) Qc))))) Qc)))) (Qh (Qp Xh)) Qq)
  (Qh (Qp (Xc G (hr.mono Dc) (Qa (qL (Qo Qm (pv 0) Qe)) (Qa (Zn ["place","many","told"] [none,none,some 2] rfl (Xq (pv 4)) (fun _ _ _=>(Yb (K:=K) (i:=0) (j:=1) rfl rfl (show(["place","many","told"]:List Str).Nodup by decide +kernel) rfl rfl rfl rfl)) (fun _ _ _=>Yc) (fun _ _ _=>(Qy (Qa (Qo (Kh (K:=K) rfl) (pv 2) (pv 0)) (Qa (pv 1) Qc))))) Qc)))))))),?_⟩
 refine Jj ?_;intros
 obtain⟨l0,c0,aN,ht,aL,ad,am⟩:=id J.prob
 have aM:=ad.length
 have aQ:=Paired.length J.rows
 have aG:=J.n
 have aE:=J.m
 have al:=J.k
 have lc:(cs.map V.int).length=cs.length:=jQ ..
 have av:y.length=2:=(Y5 (show some 2=some y.length from aB)).symm
 obtain⟨d0,d1,rfl⟩:∃d0 d1,y=[d0,d1]:=len2 av
 obtain⟨v0,v1,rfl⟩:∃v0 v1,N=[v0,v1]:=len2 az
 have h1:=af 1 v1 d1 rfl rfl
 have m1:=ao d1 (List.Mem.tail _ (List.Mem.head _))
 have eq:Jf "sum" rs cs Y g [d0,d1]=sumD cs.length g d1:=rfl
 rw[eq]at O qs
 exists"z"
 exists 4,ln,8,ap,(show atI _ ((1:Nat):Int)=some _ from Yy rfl),?_
 cases d1 with
 |lst y=>
  obtain⟨a,N,rfl,R,Z,ab⟩:=h1.lst_inv
  obtain⟨aH,ai⟩:=m1.lst_inv
  exists 4,_,"list",4,.list,h1.isi _,4,iteF ⟨_,rfl,a,N,rfl,.inl R,rfl,_,rfl,?_⟩
  cases y with
  |nil=>
   have:N=[]:=jYd Z
   subst this
   exact iteT (O rfl H (Same.refl H))
  |cons d r=>
   have eS:sumD cs.length g (.lst (d::r))=(allT (ptT g) (d::r)).map fun qs=>Yq cs.length (partsOf g qs):=rfl
   rw[eS]at O qs
   generalize ay:d::r=y at *
   have aF:0<y.length:=by rw[<-ay];simp
   refine ite2 (fun c=>Y21 (V.int.inj (yQ c)) Om) (fun _=>?_)
   exists 4,a,rfl,⟨_,R⟩,fun D hD=>?_
   let aq:Nat->St->List V->Hp->Prop:=fun i L B S=>∃u:Option V,L=[u,some (.ref l)]/\B=((y.take i).map fun d=>(ptT g d).isSome).map V.bl/\S D=some (.lst B)/\Same H S
   refine Yg (n:=y.length) aq ?_ (fun i L B S hi h=>?_) (fun i L B S hi h=>?_) (fun L B S h=>?_) ?_ ?_
   .exact⟨none,rfl,rfl,upd_same,Qb hD _⟩
   .obtain⟨u,rfl,rfl,hE,q⟩:=h
    exists hE,by rw[jQ,jQ,yY];lia
   .obtain⟨u,rfl,rfl,hE,q⟩:=h
    exists N,N[i]'Om,q.seq R,gE Om
   .obtain⟨u,rfl,rfl,hE,q⟩:=h
    exists N,q.seq R,Om
   .rintro i L B S x U hi ⟨u,rfl,rfl,hE,q⟩ ⟨rfl,e1⟩
    obtain⟨dd,ed⟩:∃d,y[i]?=some d:=⟨_,gE hi⟩
    have hx:=(ab i _ _ (e1 _ (q.seq R)) ed).same q
    exists 4,4,_,dd,l,ws,g,rfl,hx,q.seq J.lst,J.ne,hE,4,?_,upd_same,fun b o e=>?_
    .rw[Zh ed,kY,kY];rfl
    .rw[Qj (Qi e hD)];exact q _ _ e
   rintro L B S ⟨u,rfl,rfl,hE,q⟩
   rw[wJ]at hE
   exists D,4,Qg hE,4,?_
   have ae:(y.map fun d=>(ptT g d).isSome).all id=(allT (ptT g) y).isSome:=by rw[Kj,List.all_map];rfl
   rw[ae]
   cases ea:allT (ptT g) y with
   |none=>rw[ea]at O;exact iteT (O rfl S q)
   |some qq=>
    rw[ea]at qs
    obtain⟨el,eg⟩:=Jl ea
    have ak:=Qry ea ai
    refine iteF ⟨_,rfl,t,_,_,_,rfl,rfl,q.tup ht,at1,c0,_,rfl,.inr (q.tup am),?_⟩
    exists 4,a,rfl,⟨_,q.seq R⟩,fun D2 aa=>?_
    have aS:(partsOf g qq).length=qq.length:=jQ ..
    let aA:Nat->St->List V->Hp->Prop:=fun i L B U=>∃u v:Option V,L=[u,v,some (.ref l)]/\Kl K U B ((partsOf g qq).take i)/\U D2=some (.lst B)/\Same S U
    refine Yg (n:=y.length) aA ?_ (fun i L B U hi h=>?_) (fun i L B U hi h=>?_) (fun L B U h=>?_) ?_ ?_
    .exact⟨none,none,rfl,parts_nil,upd_same,Qb aa _⟩
    .obtain⟨u,v,rfl,hp,C,W⟩:=h
     have:=hp.1
     rw[yY]at this
     exists C,Om
    .obtain⟨u,v,rfl,hp,C,W⟩:=h
     exists N,N[i]'Om,(q.trans W).seq R,gE Om
    .obtain⟨u,v,rfl,hp,C,W⟩:=h
     exists N,(q.trans W).seq R,Om
    .rintro i L B U x H3 hi ⟨u,v,rfl,hp,C,W⟩ ⟨rfl,e1⟩
     have X:=q.trans W
     obtain⟨T,p,rfl,ep,hT,aC,aO,aK⟩:=Qos Z ab ai ea (e1 _ (X.seq R))
     obtain⟨ar,au,aD,ac⟩:=J.row aC
     exists T,4,X.tup hT,rfl,_,4,7,?_
     exists 4,4,l,8,X.seq J.lst,Yy au,4,Z1 2,fun T2 an=>?_
     have s3:=Qb an (.tup [.ref ar,.int p.2])
     have ag:=s3 _ _ C
     exists ag,_,4,?_,upd_same,fun b o e=>?_
     .rw[Zh (show(partsOf g qq)[i]?=some (rowO g p.1,p.2)by unfold partsOf;rw[jZ,ep];rfl)]
      refine Qhf (fun a y z=>Xv ag z) (Qlu (Qhf (fun a y z=>s3.tup z) hp) (Qn upd_same) (aD.same (X.trans s3)))
     .rw[Qj (Qi e aa)];exact s3 _ _ (W _ _ e)
    .rintro L B U ⟨u,v,rfl,hp,C,W⟩
     rw[zX Om]at hp
     exists D2,B,partsOf g qq,(cs.map V.int).length,rfl,Qg C,hp,by rw[lc];lia,fun p aj=>?_,fun t' H' s' ah=>?_
     .unfold partsOf at aj
      obtain⟨pq,ax,rfl⟩:=zJ.mp aj
      obtain⟨k1,k2,k3⟩:=ak pq ax
      rw[lc]
      obtain⟨_,_,_,ac⟩:=J.row k1
      exists ac,by show -(2 ^ 64)<pq.2;lia,by show pq.2<2 ^ 64;lia
     .rw[lc]at ah
      exact qs _ rfl t' H' ((q.trans W).trans s') ah
 |int i=>exists 4,_,"list",4,.list,h1.isi _,4,iteT (iteT (O rfl H (Same.refl H)))
 |non=>exists 4,_,"list",4,.list,h1.isi _,4,iteT (iteT (O rfl H (Same.refl H)))
 |bl b=>exists 4,_,"list",4,.list,h1.isi _,4,iteT (iteT (O rfl H (Same.refl H)))
 |str s=>exists 4,_,"list",4,.list,h1.isi _,4,iteT (iteT (O rfl H (Same.refl H)))
 |tup y=>exists 4,_,"list",4,.list,h1.isi _,4,iteT (iteT (O rfl H (Same.refl H)))
abbrev Qbk:Stmt:=top 35
def rowT(rs:List Rw)(cs:List Int)(best:Option Int)(told:List (Option Rw)):Dt->Option Rw
 |.tup (.str w::xs)=>if lenW w=some (xs.length+1)then Jf w rs cs best told (.str w::xs)else none
 |_=>none
inductive Qcs(K:Fg)(vs:List V)(H:Hp)(Q:VK)(E:XK):Prop|mk(t l:Addr)(v:V)(rs:List Rw)(cs:List Int)(best:Option Int)(ws:List V)(told:List (Option Rw))(d:Dt)(_:vs=[.ref t,Xm best,.ref l,v])(_:Jx K H t l rs cs ws told)(_:HasT K H v d)(_:Sm d)(_:okD cs.length d)(_:(rowT rs cs best told d=none->∀H',Same H H'->Q .non H'))(_:∀r,rowT rs cs best told d=some r->∀t' H',Same H H'->RowAt K H' t' r->Q (.ref t') H'):Qcs K vs H Q E
structure JTabs(P:Program)(w:World)(K:Fg)(mg:Z9)(base:Heap)(aT aL:Addr)(fT fL:Z9):Prop where
 tt:Tab w K mg "TELLERS" aT fT
 lt:Tab w K mg "LENGTHS" aL fL
 kt:∀s,(fT s).isSome=(lenW s).isSome
 kl:∀s n,lenW s=some n->∃tk,fL s=some (.int ((n:Nat):Int) tk)
 ok:TabOk P w K mg base 5 fT (qB 0) (Zr K)
theorem scRowTold:FnScope ["problem","best","told","line","word"] (qB 0) (Qf Qbk):=Sc
theorem Qot(F:Fn K mg "row_told" Qbk)(M:Mg mg)(k:JTabs P w K mg base aT aL fT fL):qC 6 "row_told" (qB 0) (Qcs K):=by
 refine Xf F scRowTold (a:=fun f ab A L s H Z Q E Y h=>?_)
 obtain⟨t,l,v,I,D,e,X,g,d,rfl,J,hv,S,B,a,G⟩:=h
 refine⟨_,(Qd (Xg (PW.pt (Yx (Xr (Xl (Qk Xn rfl M.isinstance Qx (Qa (pv 3) (Qa (Jh M.tuple_ Xp) Qc))))) (Yx (Qr Yh (qL (pv 3)) Qe (Qs _)) (Yr (Xr (Xl (Qk Xn rfl M.isinstance Qx (Qa (Qo Qm (pv 3) Qe) (Qa (Jh M.str_ bt_str) Qc))))))))) (Qh (Qp Xh)) Qq)
  (Qd (Z4 4 scRowTold.nd (Qo Qm (pv 3) Qe))
  (Qd (Xg (PW.pt (Yx (Qsy (Qnt k.tt (pv 4)) rfl) (Yr (Qr Qah (qL (pv 3)) (Qo (Qtj k.lt) (Qhp (v:=.ref aL) rfl k.lt.bound rfl) (pv 4)) (Qs _))))) (Qh (Qp Xh)) Qq)
  (Qh (Qp (Qlj k.tt k.ok (Y.mono Dc) (pv 4) (fun _ _=>rfl) (Qa (pv 0) (Qa (pv 1) (Qa (pv 2) (Qa (pv 3) Qc)))))))))),?_⟩
 refine Jj ?_;intros
 cases d with
 |tup xs=>
  obtain⟨C,O,rfl,j,m,o⟩:=hv.tup_inv
  exists 4,_,"tuple",4,.tuple,hv.isi _,4,iteF ⟨_,rfl,C,O,rfl,.inr j,rfl,_,rfl,?_⟩
  cases xs with
  |nil=>
   have:O=[]:=jYd m
   subst this
   exact iteT (iteT (a rfl H (Same.refl H)))
  |cons x r=>
   cases O with
   |nil=>simp at m
   |cons v0 ur=>
    have p:(v0::ur).length=r.length+1:=m
    have U:=o 0 v0 x rfl rfl
    refine ite2 (fun c=>Y21 (V.int.inj (yQ c)) Om) (fun _=>?_)
    exists 4,C,8,j,(show atI _ ((0:Nat):Int)=some _ from Yy rfl),_,"str",4,.str,U.isi _,4,?_
    cases x with
    |str wd=>
     cases U
     have eR:rowT I D e g (.tup (.str wd::r))=if lenW wd=some (r.length+1)then Jf wd I D e g (.str wd::r)else none:=rfl
     rw[eR]at a G
     refine iteF ⟨_,rfl,C,_,_,_,rfl,rfl,j,(show atI _ ((0:Nat):Int)=some _ from Yy rfl),?_⟩
     exists 4,wd,rfl,4,?_
     rw[k.kt wd]
     cases y:lenW wd with
     |none=>
      rw[y]at a
      exact iteT (iteT (a (Y20 fun z=>nomatch z) H (Same.refl H)))
     |some n=>
      obtain⟨tk,R⟩:=k.kl wd n y
      refine iteF ⟨_,rfl,C,_,rfl,.inr j,_,rfl,wd,_,.int ((n:Nat):Int),rfl,rfl,R,⟨tk,rfl⟩,rfl,_,rfl,?_⟩
      by_cases N:n=r.length+1
      .subst N
       rw[y]at a G
       rw[Y22 rfl]at a G
       have T:(!decide (V.int (((V.str wd::ur).length:Nat):Int)=V.int ((r.length+1:Nat):Int)))=false:=by rw[p,yJ rfl];rfl
       rw[T]
       have u:(fT wd).isSome=true:=by rw[k.kt wd,y];rfl
       obtain⟨fv,q⟩:=jJa.mp u
       obtain⟨W,fd,e8,_⟩:=k.ok wd fv q
       subst e8
       exact iteF ⟨_,rfl,wd,_,.ref W,rfl,rfl,q,rfl,wd,W,rfl,q,_,rfl,_,rfl,_,rfl,_,rfl,t,l,C,I,D,e,X,g,_,_,rfl,J,j,m,o,S.tup_inv,y,B wd r rfl y,a,G⟩
      .have T:(!decide (V.int (((V.str wd::ur).length:Nat):Int)=V.int ((n:Nat):Int)))=true:=by rw[p,yV (fun z=>N (by have:=V.int.inj z;lia))];rfl
       rw[T]
       exact iteT (a (Y20 fun z=>N (Y5 (y.symm.trans z))) H (Same.refl H))
    |int i=>exact iteT (a rfl H (Same.refl H))
    |non=>exact iteT (a rfl H (Same.refl H))
    |bl b=>exact iteT (a rfl H (Same.refl H))
    |tup xs=>exact iteT (a rfl H (Same.refl H))
    |lst xs=>exact iteT (a rfl H (Same.refl H))
 |int i=>exists 4,_,"tuple",4,.tuple,hv.isi _,4,iteT (iteT (a rfl H (Same.refl H)))
 |non=>exists 4,_,"tuple",4,.tuple,hv.isi _,4,iteT (iteT (a rfl H (Same.refl H)))
 |bl b=>exists 4,_,"tuple",4,.tuple,hv.isi _,4,iteT (iteT (a rfl H (Same.refl H)))
 |str s=>exists 4,_,"tuple",4,.tuple,hv.isi _,4,iteT (iteT (a rfl H (Same.refl H)))
 |lst xs=>exists 4,_,"tuple",4,.tuple,hv.isi _,4,iteT (iteT (a rfl H (Same.refl H)))
theorem Qhg(h:c<ns.length):(Xi ns c).length=ns.length:=by
 unfold Xi
 rw[jV,jV,yY,wY]
 show min c ns.length+1+(ns.length-(c+1))=ns.length
 lia
theorem Qaz(n:Nat)(b:List (Int×Int)):(Yd n b).length=n:=by
 unfold Yd
 suffices h:∀a:List Int,(b.foldl (fun a p=>a.set p.1.toNat (1-2*p.2)) a).length=a.length by rw[h,zZ]
 induction b with
 |nil=>intro a;rfl
 |cons p t ih=>intro a;rw[jKb,ih,jQb]
theorem Qkf{k:Nat}{rs:List Rw}(h:∀r∈rs,r.1.length=n)(a:k<rs.length):(rowK rs k).1.length=n:=by
 unfold rowK
 rw[jY,gE a]
 exact h _ (jYa a)
theorem Qfg{k:Nat}{told:List (Option Rw)}(h:∀r,some r∈told->r.1.length=n)(f:k<told.length/\(told.getD k none).isSome=true):(rowO told k).1.length=n:=by
 obtain⟨b,a⟩:=f
 unfold rowO
 rw[jY,gE b]at a⊢
 have e:(some told[k]).getD none=told[k]:=rfl
 rw[e]at a⊢
 have d:=jYa b
 cases c:told[k]with
 |none=>rw[c]at a;cases a
 |some r=>rw[c]at d;exact h r d
theorem Qrz{α:Type}{f:Dt->Option α}{ds:List Dt}{xs:List α}(h:allT f ds=some xs):∀x∈xs,∃d∈ds,f d=some x:=by
 intro x j
 obtain⟨k,g⟩:=Jl h
 obtain⟨i,e,rfl⟩:=jJb.mp j
 have a:i<ds.length:=Om
 obtain⟨p,b,c⟩:=g i ds[i] (gE a)
 rw[gE e]at b
 cases b
 exists _,jYa a,c
theorem Qlv{w:Str}{rs:List Rw}{told:List (Option Rw)}{xs:List Dt}{r:Rw}(o:∀r∈rs,r.1.length=cs.length)(f:∀r,some r∈told->r.1.length=cs.length)(h:Jf w rs cs best told xs=some r):r.1.length=cs.length:=by
 unfold Jf at h
 split at h
 .unfold Qtm at h
  split at h
  .obtain⟨k,e,rfl⟩:=zY.mp h
   exact Qkf o (Zb e).2
  .cases h
 split at h
 .unfold tLow at h
  split at h
  .obtain⟨k,e,rfl⟩:=zY.mp h
   show((qg _ _).set _ _).length=_
   rw[jQb,zZ]
  .cases h
 split at h
 .unfold tHigh at h
  split at h
  .obtain⟨k,e,rfl⟩:=zY.mp h
   show((qg _ _).set _ _).length=_
   rw[jQb,zZ]
  .cases h
 split at h
 .unfold Qon at h
  split at h
  .obtain⟨k,e,rfl⟩:=zY.mp h
   exact jQ ..
  .cases h
 split at h
 .unfold tSum sumD at h
  split at h
  .split at h
   .obtain⟨u,e,rfl⟩:=zY.mp h
    refine Qam _ _ fun p g=>?_
    unfold partsOf at g
    obtain⟨q,n,rfl⟩:=zJ.mp g
    obtain⟨x,_,m⟩:=Qrz e q n
    exact Qfg f (Qet m).2.1
   .cases h
  .cases h
 split at h
 .unfold Qtn Qdr at h
  split at h
  .split at h
   .split at h
    .obtain⟨k,e,a⟩:=wQ.mp h
     split at a
     .cases a
      show(List.map _ _).length=_
      rw[jQ]
      exact Qfg f (Kk e).2
     .cases a
    .cases h
   .cases h
  .cases h
 split at h
 .unfold tShut at h
  split at h
  .obtain⟨k,e,a⟩:=wQ.mp h
   obtain⟨y,s,b⟩:=wQ.mp a
   split at b
   .cases b;exact Qaz _ _
   .cases b
  .cases h
 split at h
 .unfold Qoo at h
  split at h
  .obtain⟨i,e,a⟩:=wQ.mp h
   obtain⟨j,s,b⟩:=wQ.mp a
   obtain⟨c,l,d⟩:=wQ.mp b
   split at d
   .cases d
    have:=Qfg f (Kk e).2
    have v:=(Zb l).2
    exact(Qhg Om).trans this
   .cases d
  .cases h
 split at h
 .unfold tLike at h
  split at h
  .obtain⟨t,e,a⟩:=wQ.mp h
   obtain⟨xs,rfl⟩:=Qhe e
   split at a
   .cases a
    exact(Qao t _).trans (Qhd e).2.2
   .cases a
  .cases h
 .cases h
theorem Qkg{rs:List Rw}{told:List (Option Rw)}{d:Dt}{r:Rw}(b:∀r∈rs,r.1.length=cs.length)(a:∀r,some r∈told->r.1.length=cs.length)(h:rowT rs cs best told d=some r):r.1.length=cs.length:=by
 unfold rowT at h
 split at h
 .split at h
  .exact Qlv b a h
  .cases h
 .cases h
theorem Xk(e:DictEntry)(l:List DictEntry)(x:Str)(t:Tok)(h:e.key=.str x t)(s:Str):PySem.findBy PySem.Value.isStrOf ⟨e::l⟩ s=if s=x then some e.val else PySem.findBy PySem.Value.isStrOf ⟨l⟩ s:=by
 unfold PySem.findBy
 rw[List.find?_toArray,List.find?_toArray,jZe]
 by_cases a:s=x
 .subst a
  rw[Y22 rfl,h]
  have:PySem.Value.isStrOf s (.str s t)=true:=by simp[PySem.Value.isStrOf]
  rw[this]
  rfl
 .rw[Y20 a,h]
  have:PySem.Value.isStrOf s (.str x t)=false:=by simp[PySem.Value.isStrOf];exact fun z=>a z.symm
  rw[this]
structure JTab0(w:World)(K:Fg)(mg:Z9)(aT aL:Addr)(fT fL:Z9):Prop where
 tt:Tab w K mg "TELLERS" aT fT
 lt:Tab w K mg "LENGTHS" aL fL
 nt:∃v1 v2 v3 v4 v5 v6 v7 v8 v9:Value,mg "told_given"=some v1/\mg "told_low"=some v2/\mg "told_high"=some v3/\mg "told_better"=some v4/\mg "told_sum"=some v5/\mg "told_share"=some v6/\mg "told_shut"=some v7/\mg "told_either"=some v8/\mg "told_like"=some v9/\∀s,fT s=if s="given" then some v1 else if s="low" then some v2 else if s="high" then some v3 else if s="better" then some v4 else if s="sum" then some v5 else if s="share" then some v6 else if s="shut" then some v7 else if s="either" then some v8 else if s="like" then some v9 else none
 nl:∃t1 t2 t3 t4 t5 t6 t7 t8 t9:Tok,∀s,fL s=if s="given" then some (.int 2 t1)else if s="low" then some (.int 2 t2)else if s="high" then some (.int 2 t3)else if s="better" then some (.int 1 t4)else if s="sum" then some (.int 2 t5)else if s="share" then some (.int 3 t6)else if s="shut" then some (.int 3 t7)else if s="either" then some (.int 4 t8)else if s="like" then some (.int 2 t9)else none
theorem jtab0{es fs:Array DictEntry}{v1 v2 v3 v4 v5 v6 v7 v8 v9:Value}{h1 g1 h2 g2 h3 g3 h4 g4 h5 g5 h6 g6 h7 g7 h8 g8 h9 g9:Int}{t1 q1 j1 t2 q2 j2 t3 q3 j3 t4 q4 j4 t5 q5 j5 t6 q6 j6 t7 q7 j7 t8 q8 j8 t9 q9 j9:Tok}
  (q:mg "TELLERS"=some (.ref aT)) (x:K.lookup aT=some ⟨.type "dict",none,.dict es m,#[]⟩) (r:PySem.W.KeysLit w.params es.toList) (b:(aT == sysModules)=false) (l:es=⟨[⟨h1,.str "given" t1,v1⟩,⟨h2,.str "low" t2,v2⟩,⟨h3,.str "high" t3,v3⟩,⟨h4,.str "better" t4,v4⟩,⟨h5,.str "sum" t5,v5⟩,⟨h6,.str "share" t6,v6⟩,⟨h7,.str "shut" t7,v7⟩,⟨h8,.str "either" t8,v8⟩,⟨h9,.str "like" t9,v9⟩]⟩)
  (f:mg "LENGTHS"=some (.ref aL)) (u:K.lookup aL=some ⟨.type "dict",none,.dict fs n,#[]⟩) (g:PySem.W.KeysLit w.params fs.toList) (v:(aL == sysModules)=false) (p:fs=⟨[⟨g1,.str "given" q1,.int 2 j1⟩,⟨g2,.str "low" q2,.int 2 j2⟩,⟨g3,.str "high" q3,.int 2 j3⟩,⟨g4,.str "better" q4,.int 1 j4⟩,⟨g5,.str "sum" q5,.int 2 j5⟩,⟨g6,.str "share" q6,.int 3 j6⟩,⟨g7,.str "shut" q7,.int 3 j7⟩,⟨g8,.str "either" q8,.int 4 j8⟩,⟨g9,.str "like" q9,.int 2 j9⟩]⟩)
  (c:mg "told_given"=some v1) (o:mg "told_low"=some v2) (i:mg "told_high"=some v3) (t:mg "told_better"=some v4) (a:mg "told_sum"=some v5) (h:mg "told_share"=some v6) (d:mg "told_shut"=some v7) (e:mg "told_either"=some v8) (j:mg "told_like"=some v9):JTab0 w K mg aT aL (fun k=>PySem.findBy PySem.Value.isStrOf es k) (fun k=>PySem.findBy PySem.Value.isStrOf fs k):=by
 exists Qti q x r b,Qti f u g v,⟨v1,v2,v3,v4,v5,v6,v7,v8,v9,c,o,i,t,a,h,d,e,j,fun s=>?_⟩,⟨j1,j2,j3,j4,j5,j6,j7,j8,j9,fun s=>?_⟩
 .subst l
  show PySem.findBy _ _ s=_
  rw[Xk _ _ "given" t1 rfl,Xk _ _ "low" t2 rfl,Xk _ _ "high" t3 rfl,Xk _ _ "better" t4 rfl,Xk _ _ "sum" t5 rfl,Xk _ _ "share" t6 rfl,Xk _ _ "shut" t7 rfl,Xk _ _ "either" t8 rfl,Xk _ _ "like" t9 rfl]
  rfl
 .subst p
  show PySem.findBy _ _ s=_
  rw[Xk _ _ "given" q1 rfl,Xk _ _ "low" q2 rfl,Xk _ _ "high" q3 rfl,Xk _ _ "better" q4 rfl,Xk _ _ "sum" q5 rfl,Xk _ _ "share" q6 rfl,Xk _ _ "shut" q7 rfl,Xk _ _ "either" q8 rfl,Xk _ _ "like" q9 rfl]
  rfl
theorem Qsa(J:JTab0 w K mg aT aL fT fL)
  (H:qC 4 "told_given" (qB 0) (Zr K "given")) (C:qC 4 "told_low" (qB 0) (Zr K "low")) (V:qC 4 "told_high" (qB 0) (Zr K "high")) (B:qC 2 "told_better" (qB 0) (Zr K "better")) (G:qC 5 "told_sum" (qB 0) (Zr K "sum")) (S:qC 4 "told_share" (qB 0) (Zr K "share")) (M:qC 5 "told_shut" (qB 0) (Zr K "shut")) (E:qC 4 "told_either" (qB 0) (Zr K "either")) (R:qC 4 "told_like" (qB 0) (Zr K "like")):JTabs P w K mg base aT aL fT fL:=by
 obtain⟨v1,v2,v3,v4,v5,v6,v7,v8,v9,A,z,D,Q,U,O,T,X,y,u⟩:=J.nt
 obtain⟨k1,k2,k3,k4,k5,k6,k7,k8,Z,I⟩:=J.nl
 have a:∀{x:Str} {t:Sp} {v:Value} {k:Nat},k<=5->qC k x (qB 0) t->mg x=some v->∃fa r,v=.ref fa/\FnOk P w K mg base CX0 5 fa r (qB 0) t/\PySem.W.keepIn K (.ref fa)=true/\Binds K r (qB 0) []:=by
  intro x t v k N c Y
  obtain⟨f,r,F,m,L,b⟩:=(c.mono N).ex
  rw[Y]at m
  exists f,r,Y5 m,F,L,b
 exists J.tt,J.lt,fun s=>?_,fun s n h=>?_,fun s v h=>?_
 .rw[u s]
  unfold lenW
  repeat' split
  all_goals rfl
 .rw[I s]
  unfold lenW at h
  by_cases o:s="given"
  .rw[Y22 o]at h⊢;cases h;exists 4
  rw[Y20 o]at h⊢
  by_cases i:s="low"
  .rw[Y22 i]at h⊢;cases h;exists 4
  rw[Y20 i]at h⊢
  by_cases j:s="high"
  .rw[Y22 j]at h⊢;cases h;exists 4
  rw[Y20 j]at h⊢
  by_cases e:s="better"
  .rw[Y22 e]at h⊢;cases h;exists 4
  rw[Y20 e]at h⊢
  by_cases l:s="sum"
  .rw[Y22 l]at h⊢;cases h;exists 4
  rw[Y20 l]at h⊢
  by_cases g:s="share"
  .rw[Y22 g]at h⊢;cases h;exists 4
  rw[Y20 g]at h⊢
  by_cases d:s="shut"
  .rw[Y22 d]at h⊢;cases h;exists 4
  rw[Y20 d]at h⊢
  by_cases q:s="either"
  .rw[Y22 q]at h⊢;cases h;exists 4
  rw[Y20 q]at h⊢
  by_cases p:s="like"
  .rw[Y22 p]at h⊢;cases h;exists 4
  rw[Y20 p]at h⊢
  cases h
 .rw[u s]at h
  by_cases o:s="given"
  .rw[Y22 o]at h;cases h;subst o;exact a Dc H A
  rw[Y20 o]at h
  by_cases i:s="low"
  .rw[Y22 i]at h;cases h;subst i;exact a Dc C z
  rw[Y20 i]at h
  by_cases j:s="high"
  .rw[Y22 j]at h;cases h;subst j;exact a Dc V D
  rw[Y20 j]at h
  by_cases e:s="better"
  .rw[Y22 e]at h;cases h;subst e;exact a Dc B Q
  rw[Y20 e]at h
  by_cases l:s="sum"
  .rw[Y22 l]at h;cases h;subst l;exact a Dc G U
  rw[Y20 l]at h
  by_cases g:s="share"
  .rw[Y22 g]at h;cases h;subst g;exact a Dc S O
  rw[Y20 g]at h
  by_cases d:s="shut"
  .rw[Y22 d]at h;cases h;subst d;exact a Dc M T
  rw[Y20 d]at h
  by_cases q:s="either"
  .rw[Y22 q]at h;cases h;subst q;exact a Dc E X
  rw[Y20 q]at h
  by_cases p:s="like"
  .rw[Y22 p]at h;cases h;subst p;exact a Dc R y
  rw[Y20 p]at h
  cases h
end Nb
variable{rs hd rs2:List Nb.Rw}{told olds:List (Option Nb.Rw)}{ds:List Nb.Dt}
namespace L2
open PySem PySem.Spec PyProof.Rows PySem.SeqAt
theorem Qsb(h:Qai v=true):eqV v v=true:=by
 cases v with
 |non=>rfl
 |bl b=>exact beq_self_eq_true b
 |int i=>exact beq_self_eq_true i
 |str x=>exact beq_self_eq_true x
 |_=>exact nomatch h
open PySem.W in
theorem Qou{D:Addr}(s:Same H H1)(a:H D=none):Same H (upd H1 D o):=fun b u e=>by
 rw[Qj (Qi e a)];exact s b u e
theorem Qov{α:Type}{xs:List α}{x:α}(h:xs[i]?=some x):xs.take (i+1)=xs.take i++[x]:=by
 obtain⟨a,e⟩:=jW.mp h
 rw[List.take_succ,h]
 rfl
theorem Qsc{g:TG}{Q:Addr->Hp->Prop}{D:Addr}(T:St->Prop)(e:Nat->Bool)(f:Nat->V)(p:H D=none)(B:n<sizeLine)(y:T τ0)
  (t:∀i H1,i<n->Same H H1->J.go i H1) (d:∀H1,Same H H1->J.stop n H1)
  (r:∀i τ H1 x H',i<n->T τ->Same H H1->J.yld i H1 x H'->∀(P1:St->V->Hp->Prop) (P2:St->Hp->Prop),(e i=true->∀σ2 H4,T σ2->Same H1 H4->P1 σ2 (f i) H4)->(e i=false->∀σ2 H3,T σ2->Same H1 H3->P2 σ2 H3) ->
   g x τ H' fun σ2 H2=>tt σ2 H2 fun ok H3=>if ok=true then te σ2 H3 fun v H4=>P1 σ2 v H4 else P2 σ2 H3)
  (u:∀H1,Same H H1->H1 D=some (.lst (((List.range n).filter e).map f))->Q D H1) :
  LcW J D τ0 H g tt te Q:=by
 let l:Nat->St->List V->Hp->Prop:=fun i τ b H1=>T τ/\H1 D=some (.lst b)/\Same H H1/\b=((List.range i).filter e).map f
 refine Yg (n:=n) l ?_ (fun i τ b H1 k h=>?_) (fun i τ b H1 k h=>?_) (fun τ b H1 h=>?_) ?_ ?_
 .exact⟨y,upd_same,Qb p _,rfl⟩
 .obtain⟨_,a,_,rfl⟩:=h
  exists a,?_
  have w:=List.length_filter_le e (List.range i)
  rw[jXb]at w
  rw[jQ]
  lia
 .exact t i H1 k h.2.2.1
 .exact d H1 h.2.2.1
 .rintro i τ b H1 x H' k ⟨z,a,j,rfl⟩ A
  refine r i τ H1 x H' k z j A _ _ (fun c σ2 H4 s m=>⟨m _ _ a,s,upd_same,Qou (j.trans m) p,?_⟩) (fun c σ2 H3 q o=>⟨q,o _ _ a,j.trans o,?_⟩)
  .rw[jZd,kXf,kY,kZd c];rfl
  .rw[jZd,kXf,kY,kZe (by rw[c];exact yX)]
   exact(kXd _).symm
 .rintro τ b H1 ⟨_,a,j,rfl⟩
  exact u H1 j a
theorem Qfh(n:Nat):(List.range n).filter (fun _=>true)=List.range n:=List.filter_eq_self.mpr fun _ _=>rfl
end L2
namespace Nb
open PySem L2
theorem Qow(b:List (Int×Int)):∀(d:List (Key×V)),(b.map (·.1)).Nodup->∀j:Nat,valV ((b.map fun p=>(p.1,V.int p.2)).foldl (fun d p=>putK d (Sum.inl p.1) p.2) d) (Sum.inl (j:Int))=match hv b j with | some w=>some (.int w) | none=>valV d (Sum.inl (j:Int)):=by
 induction b with
 |nil=>intro d _ j;rfl
 |cons p t ih=>
  intro d h j
  have a:=jJc.mp (show(p.1::t.map (·.1)).Nodup from h)
  show valV ((t.map fun p=>(p.1,V.int p.2)).foldl (fun d p=>putK d (Sum.inl p.1) p.2) (putK d (Sum.inl p.1) (V.int p.2))) (Sum.inl (j:Int))=_
  rw[ih _ a.2 j,Qii]
  by_cases e:p.1=(j:Int)
  .rw[Y22 e]
   have:hv t j=none:=hv_none.mpr (by rw[<-e];exact a.1)
   rw[this]
   show valV (putK d (Sum.inl p.1) (V.int p.2)) (Sum.inl (j:Int))=some (.int p.2)
   rw[Wp,Y22 (by rw[e])]
  .rw[Y20 e]
   cases hv t j with
   |some w=>rfl
   |none=>
    show valV (putK d (Sum.inl p.1) (V.int p.2)) (Sum.inl (j:Int))=valV d (Sum.inl (j:Int))
    rw[Wp,Y20 (fun z=>e (Sum.inl.inj z).symm)]
theorem Qsd(h:(hs.map (·.1)).Nodup)(j:Nat):valV (dOf hs) (Sum.inl (j:Int))=(hv hs j).map V.int:=by
 have:=Qow hs [] h j
 unfold dOf Yv
 rw[this]
 cases hv hs j<;>rfl
theorem Qox(h:Good n hs)(a:r.1.length=n):Vz (dOf hs) r.1 r.1.length-r.2=roomF n (hv hs) r:=by
 unfold roomF Vz
 rw[a]
 congr 1
 refine Qan fun j _=>?_
 rw[Qsd h.nd]
 cases hv hs j<;>rfl
theorem atN(h:i<ns.length):atI (ns.map V.int) ((i:Nat):Int)=some (.int (ns.getD i 0)):=Zx (by rw[jZ,gE h,jY,gE h];rfl)
theorem Qse(c:Int)(a:List Int):inV (.int c) (a.map V.int)=decide (c∈a):=by
 induction a with
 |nil=>rfl
 |cons k r ih=>
  show(eqV (V.int k) (V.int c)||inV (.int c) (r.map V.int))=_
  rw[ih,jXc,decide_eq_true_iff,jZc,decide_eq_true_iff,yK]
  show((k == c)=true\/_)↔_
  rw[beq_iff_eq]
  constructor
  .rintro(h | h)
   .exact .inl h.symm
   .exact .inr h
  .rintro(h | h)
   .exact .inl h.symm
   .exact .inr h
theorem Qoy(b:List Int):(b.map V.int).all Qai=true:=by
 rw[jXe]
 intro x a
 obtain⟨k,_,rfl⟩:=zJ.mp a
 rfl
theorem atZ{c:Int}(a:0<=c)(b:c<(ns.length:Int)):atI (ns.map V.int) c=some (.int (ns.getD c.toNat 0)):=by
 have e:c=((c.toNat:Nat):Int):=Om
 rw[e]
 exact atN Om
theorem Yw{x:V}(h:PairsAre K H ws (hs.map fun p=>(p.1,V.int p.2)))(e:ws[i]?=some x)(s:Same H H'):∃T c w,x=.ref T/\hs[i]?=some (c,w)/\SqT K H' T [.int c,.int w]:=by
 obtain⟨p,a,T,d,z⟩:=L2.Xw h e
 rw[jZ]at a
 obtain⟨⟨c,w⟩,b,rfl⟩:=zY.mp a
 exists T,c,w,d,b,s.tup z
inductive Qdt(vs:List V)(H:Hp)(Q:VK)(E:XK):Prop|mk(x m:Int)(_:vs=[.int x,.int m])(_:∀c:Bool,(c=true↔0<=x/\x<m)->Q (.bl c) H):Qdt vs H Q E
theorem at10{x:V}:atI [x] 0=some x:=by rfl
theorem at30{x:V}:atI [x,y,z] 0=some x:=by rfl
theorem at31{x:V}:atI [x,y,z] 1=some y:=by rfl
theorem at32{x:V}:atI [x,y,z] 2=some z:=by rfl
theorem at40{x:V}:atI [x,y,z,v] 0=some x:=by rfl
theorem at41{x:V}:atI [x,y,z,v] 1=some y:=by rfl
theorem at42{x:V}:atI [x,y,z,v] 2=some z:=by rfl
theorem at43{x:V}:atI [x,y,z,v] 3=some v:=by rfl
theorem big1{b:Int}(a:0<b)(c:b<=1000000):b≠0/\Big b:=⟨Om,xY (show b.natAbs<=1000000 by lia) Dk⟩
def HasTs(K:Fg)(H:Hp)(vs:List V)(ds:List Dt):Prop:=vs.length=ds.length/\∀(i:Nat) v x,vs[i]?=some v->ds[i]?=some x->HasT K H v x
theorem HasTs.nil:HasTs K H [] []:=⟨rfl,fun i v x e=>by simp at e⟩
theorem HasTs.cons{K:Fg}{H:Hp}{v:V}{d:Dt}{vs:List V}{ds:List Dt}(h:HasT K H v d)(t:HasTs K H vs ds):HasTs K H (v::vs) (d::ds):=by
 exists by rw[zV,zV,t.1],fun i c x b a=>?_
 cases i with
 |zero=>simp at b a;subst b a;exact h
 |succ i=>exact t.2 i c x (by simpa using b) (by simpa using a)
theorem HasTs.ints(ns:List Int):HasTs K H (ns.map V.int) (ns.map Dt.int):=by
 induction ns with
 |nil=>exact .nil
 |cons n ns ih=>exact .cons (.int n) ih
theorem tupT(h:SqT K H a vs)(t:HasTs K H vs ds):HasT K H (.ref a) (.tup ds):=.tup h t.1 t.2
theorem lstT(h:SqL K H a vs)(t:HasTs K H vs ds):HasT K H (.ref a) (.lst ds):=.lst h t.1 t.2
def Jg(p:Int×Int):Dt:=.tup [.int p.1,.int p.2]
theorem Qoz(k:SqL K H a vs)(h:PairsAre K H vs (hs.map fun p=>(p.1,V.int p.2))):HasT K H (.ref a) (.lst (hs.map Jg)):=by
 have e:=h.length
 rw[jQ]at e
 refine .lst k (by rw[jQ,e]) fun i v x c b=>?_
 obtain⟨T,l,rfl,d,g⟩:=h.get c
 rw[jZ]at d b
 obtain⟨p,f,rfl⟩:=zY.mp d
 rw[f]at b
 cases b
 exact .tup g rfl fun j v x c b=>by
  match j,c,b with
  |0,c,b=>cases c;cases b;exact .int _
  |1,c,b=>cases c;cases b;exact .int _
theorem Xd{d:Dt}(h:Sm d)(t:∀x∈ds,Sm x):∀x∈d::ds,Sm x:=fun x a=>by
 rcases yK.mp a with z | z
 .rw[z];exact h
 .exact t x z
theorem Zl:∀x∈([]:List Dt),Sm x:=fun _ h=>nomatch h
theorem Qbl{α β:Type}{f:Dt->Option α}{g:β->Dt}{h:β->α}:∀(l:List β),(∀x∈l,f (g x)=some (h x))->allT f (l.map g)=some (l.map h)
 |[],_=>rfl
 |x::l,hh=>by
  show(match f (g x),allT f (l.map g)with | some x,some t=>some (x::t) | _,_=>none)=_
  rw[hh x kZ,Qbl l fun y a=>hh y (yW _ a)]
  rfl
theorem Qio{α β:Type}{f:Dt->Option α}{g:β->Dt}{l:List β}{x:β}(b:x∈l)(h:f (g x)=none):allT f (l.map g)=none:=by
 have e:=Kj f (l.map g)
 have:((l.map g).all fun d=>(f d).isSome)=false:=List.all_eq_false.mpr ⟨g x,zJ.mpr ⟨x,b,rfl⟩,by rw[h];exact yX⟩
 rw[this]at e
 cases a:allT f (l.map g)with
 |none=>rfl
 |some _=>rw[a]at e;cases e
theorem Zi{w:Str}{xs:List Dt}(h:lenW w=some (xs.length+1)):rowT rs cs best told (.tup (.str w::xs))=Jf w rs cs best told (.str w::xs):=Y22 h
theorem Qfi{xs:List Int}{k:Nat}{z:Int}(a:k<xs.length):(xs.set k z).getD j 0=if j=k then z else xs.getD j 0:=by
 rw[jY,jY]
 by_cases e:j=k
 .subst e;rw[Y22 rfl,kJa a];rfl
 .rw[Y20 e,kKc (Ne.symm e)]
theorem up_div{l b:Int}(d:0<b):l.fdiv b+(if (!decide (l % b=0))=true then 1 else 0)=-((-l).fdiv b):=by
 rw[kQc _ Om,kQc _ Om]
 have e:=Int.mul_ediv_add_emod l b
 have g:=jQf l (show b≠0 by lia)
 have f:=jQa l d
 by_cases c:l % b=0
 .rw[yJ c,Int.neg_ediv_of_dvd (Int.dvd_of_emod_eq_zero c)]
  simp
 .rw[yV c]
  have:(-l) / b=-(l / b)-1:=((Int.ediv_emod_unique (a:=-l) (r:=b-l % b) (q:=-(l / b)-1) d).mpr ⟨by rw[Int.mul_sub,Int.mul_neg,Int.mul_one];lia,Om,Om⟩).1
  rw[this]
  simp
  lia
theorem ex_div{x b:Int}(a:0<b)(h:x % b=0):x.fdiv b=-((-x).fdiv b):=by
 have:=up_div (l:=x) a
 rw[yJ h]at this
 simpa using this
theorem Qfj(n:Nat)(a:List (Int×Int)):(Jw n a).2=1-(a.map (·.2)).sum:=by
 show Jq a=_
 unfold Jq
 suffices h:∀z:Int,a.foldl (fun z p=>z-p.2) z=z-(a.map (·.2)).sum from h 1
 induction a with
 |nil=>intro z;show z=z-0;lia
 |cons p r ih=>intro z;rw[jKb,ih,xX,List.sum_cons];lia
theorem Qct{xs ys:List Int}(k:xs.length=n)(i:ys.length=n)(m:c<n):Xi xs c=Xi ys c↔∀j,j<n->j≠c->xs.getD j 0=ys.getD j 0:=by
 have e:∀g:List Int,g.length=n->Xi g c=g.set c 0:=fun g o=>by
  unfold Xi
  rw[List.set_eq_take_append_cons_drop,Y22 Om]
  simp
 rw[e xs k,e ys i]
 constructor
 .intro h j p d
  have:=congrArg (fun l=>l.getD j 0) h
  rw[Qfi Om,Qfi Om,Y20 d,Y20 d]at this
  exact this
 .intro h
  refine List.ext_getElem (by rw[jQb,jQb];lia) fun j a b=>?_
  rw[jQb]at a b
  have f:(xs.set c 0).getD j 0=(ys.set c 0).getD j 0:=by
   rw[Qfi Om,Qfi Om]
   by_cases d:j=c
   .rw[Y22 d,Y22 d]
   .rw[Y20 d,Y20 d];exact h j Om d
  rw[jY,jY,gE (by rw[jQb];exact a),gE (by rw[jQb];exact b)]at f
  exact f
theorem Qhh(n:Nat):(qg ((n:Int)).toNat [V.int 0]).flatten=(qg n (0:Int)).map V.int:=by
 rw[jQc];exact rep0 n
def AnsO(K:Fg)(H:Hp)(Q:VK)(o:Option Rw):Prop:=(o=none->∀H',Same H H'->Q .non H')/\∀r,o=some r->∀t' H',Same H H'->RowAt K H' t' r->Q (.ref t') H'
theorem AnsO.no{Q:VK}{p:Prop}[Decidable p]{r:Rw}(h:AnsO K H Q (if p then some r else none))(n:¬p)(s:Same H H'):Q .non H':=h.1 (Y20 n) H' s
theorem AnsO.yes{Q:VK}{p:Prop}[Decidable p]{r:Rw}(h:AnsO K H Q (if p then some r else none))(n:p){t:Addr}(s:Same H H')(z:RowAt K H' t r):Q (.ref t) H':=h.2 r (Y22 n) t H' s z
theorem AnsO.later{Q:VK}{o:Option Rw}(h:AnsO K H Q o)(s:Same H H1):AnsO K H1 Q o:=⟨fun e a b=>h.1 e a (s.trans b),fun r e t a b=>h.2 r e t a (s.trans b)⟩
theorem Qto(ns:List Int)(g:Int->Int):((List.range ns.length).filter fun _=>true).map (fun i=>V.int (g (ns.getD i 0)))=(ns.map g).map V.int:=by
 rw[Qfh]
 refine jYf fun k=>?_
 rw[jZ,jZ,jZ]
 by_cases h:k<ns.length
 .rw[kXc h,gE h]
  show some (V.int (g (ns.getD k 0)))=some (V.int (g ns[k]))
  rw[jY,gE h];rfl
 .rw[wX (by rw[jXb];lia),wX Om];rfl
inductive spShr(K:Fg)(vs:List V)(H:Hp)(Q:VK)(E:XK):Prop|mk(t:Addr)(r:List Int×Int)(b:Int)(_:vs=[.ref t,.int b])(_:RowAt K H t r)(_:1<=b)(_:b<=3)(_:r.1.length<=1000)(_:AnsO K H Q (if divides r b=true then some (Vp r b)else none)):spShr K vs H Q E
inductive Qpa(K:Fg)(vs:List V)(H:Hp)(Q:VK)(E:XK):Prop|mk(t l:Addr)(r:List Int×Int)(hs:List (Int×Int))(_:vs=[.ref t,.ref l])(_:RowAt K H t r)(_:HoldsAt K H l hs)(_:Good r.1.length hs)(_:r.1.length<=1000)(_:hs.length<=1001)(_:∀H',Same H H'->Q (.int (Qaa r hs)) H'):Qpa K vs H Q E
theorem Qvd(h:Good r.1.length hs):Qoe r hs+r.2=Qaa r hs:=by
 rw[Qrm h,<-Qox h rfl]
 show Vz (dOf hs) r.1 r.1.length-r.2+r.2=Vz (dOf hs) r.1 r.1.length
 lia
theorem Qpb(n:Nat){c w:Int}(e:hs[i]?=some (c,w)):Yd n (hs.take (i+1))=(Yd n (hs.take i)).set c.toNat (1-2*w):=by
 unfold Yd
 rw[Zh e,jZa]
 rfl
inductive Qpc(K:Fg)(vs:List V)(H:Hp)(Q:VK)(E:XK):Prop|mk(l:Addr)(n:Nat)(hs:List (Int×Int))(_:vs=[.int (n:Int),.ref l])(_:HoldsAt K H l hs)(_:Good n hs)(_:n<=1000)(_:hs.length<=1000)(_:∀t' H',Same H H'->RowAt K H' t' (Jw n hs)->Q (.ref t') H'):Qpc K vs H Q E
inductive spSht(K:Fg)(vs:List V)(H:Hp)(Q:VK)(E:XK):Prop|mk(t l:Addr)(r:List Int×Int)(hs:List (Int×Int))(n:Nat)(_:vs=[.ref t,.ref l])(_:RowAt K H t r)(_:HoldsAt K H l hs)(_:r.1.length=n)(_:Good n hs)(_:n<=1000)(_:hs.length<=1000)(_:AnsO K H Q (if Qaa r hs<r.2 then some (Jw n hs)else none)):spSht K vs H Q E
theorem Qtp:∀(n:Nat) (l:List Nat),l.Nodup->(∀x∈l,x<n)->l.length<=n
 |0,l,_,h=>by
  cases l with
  |nil=>exact jJ _
  |cons a t=>exact Y21 (h a (kZ ..)) (Nat.not_lt_zero _)
 |n+1,l,nd,h=>by
  have c:=Qtp n (l.erase n) (nd.erase n) fun x d=>by
   obtain⟨a,b⟩:=nd.mem_erase_iff.mp d
   have:=h x b
   lia
  rw[List.length_erase]at c
  split at c<;>lia
theorem Qac(h:Good n hs):hs.length<=n:=by
 have e:(hs.map fun p=>p.1.toNat).Nodup:=by
  have b:=h.nd
  have ok:=h.ok
  clear h
  induction hs with
  |nil=>exact kKd
  |cons p t ih=>
   rw[xX,jJc]at b⊢
   exists fun z=>?_,ih b.2 fun q a=>ok q (yW _ a)
   obtain⟨q,a,i⟩:=zJ.mp z
   have f:=(ok q (yW _ a)).1
   have g:=(ok p (kZ ..)).1
   exact b.1 (zJ.mpr ⟨q,a,Om⟩)
 have c:=Qtp n _ e fun x d=>by
  obtain⟨q,a,rfl⟩:=zJ.mp d
  have:=h.ok q a
  show q.1.toNat<n
  lia
 rw[jQ]at c
 exact c
abbrev sIs:Stmt:=top 48
abbrev sShr:Stmt:=top 51
theorem scIs:FnScope ["_law_thing","_law_most_here"] ["_law_thing","_law_most_here"] (Qf sIs):=Sc
theorem okIs(F:Fn K mg "_law_is" sIs)(M:Mg mg):qC 1 "_law_is" ["_law_thing","_law_most_here"] (Qdt):=by
 refine Xf F scIs (a:=fun f b A a s H d Q E e h=>?_)
 obtain⟨x,m,rfl,q⟩:=h
 exists _,(Qh (Qp (Jo (Qk Qjf rfl M.isinstance Qx (Qa (pv 0) (Qa (Jh M.int_ Vc) Qc))) (Jo (Qsz (Qk Qjf rfl M.isinstance Qx (Qa (pv 0) (Qa (Jh M.bool_ Qed) Qc)))) (Jo (Xz Qfu (pv 0) Qe (Qs _)) (Vx (Xz Qft (pv 0) (pv 1) (Qs _)))))))),?_
 exists 4,_,"int",true,rfl,.inl ⟨rfl,rfl⟩,true,rfl,iteT ⟨_,rfl,_,"bool",false,rfl,.inr (.inl ⟨rfl,rfl⟩),_,rfl,_,rfl,iteT ⟨_,rfl,_,_,rfl,rfl,_,rfl,ite2 (fun c=>⟨_,rfl,_,rfl,_,_,rfl,rfl,?_⟩) (fun c=>?_)⟩⟩
 .exact q _ (by rw[decide_eq_true_iff];exists fun z=>⟨yQ c,z⟩,fun z=>z.2)
 .have:=q false ⟨fun z=>(nomatch z),fun z=>Y21 (yJ z.1) c⟩
  exact this
theorem scShr:FnScope ["_law_row_here","_law_by","_law_number"] ["_law_row_here","_law_by"] (Qf sShr):=Sc
theorem okShr(F:Fn K mg "_law_shared" sShr)(M:Mg mg):qC 1 "_law_shared" ["_law_row_here","_law_by"] (spShr K):=by
 refine Xf F scShr (a:=fun f Z A C s H U Q E hr h=>?_)
 obtain⟨t,r,b,rfl,⟨p,J,j⟩,b1,b3,hn,q⟩:=h
 refine⟨_,(Qd (Xg (PW.pt (Yx (Xr (Xl (Qk Xn rfl M.isinstance Qx (Qa (pv 1) (Qa (Jh M.int_ Vc) Qc))))) (Yx (Xl (Qk Xn rfl M.isinstance Qx (Qa (pv 1) (Qa (Jh M.bool_ Qed) Qc)))) (Yr (Qr Qft (pv 1) Qe (Qs _)))))) (Qh (Qp Xh)) Qq)
  (Qd (Yo PassesOwn.never rfl (Qaw (Qo Qm (pv 0) Qe)) (Z3 2 scShr.nd) (Qh (Xg (Qr Qah (Qu Yl (pv 2) (pv 1)) Qe (Qs _)) (Qh (Qp Xh)) Qq)))
  (Qh (Qp (Qy (Qa (Qz Xb rfl M.tuple_ Xp (Qa (Zn ["_law_number","_law_by"] [none,some 1] rfl (Qaw (Qo Qm (pv 0) Qe)) (fun _ _ _=>(Z3 0 (show(["_law_number","_law_by"]:List Str).Nodup by decide +kernel))) (fun _ _ _=>Yc) (fun _ _ _=>(Qu Wr (pv 0) (pv 1)))) Qc)) (Qa (Qu Ys Qe (Qu Wr (Qu Ys Qe (Qo Qm (pv 0) Qe)) (pv 1))) Qc))))))),?_⟩
 refine Ji ?_;intros
 exists"z"
 exists 4,_,"int",true,rfl,.int,rfl,4,iteF ⟨_,rfl,_,"bool",false,rfl,.bool,rfl,_,rfl,iteF ⟨_,rfl,_,_,rfl,rfl,_,rfl,ite2 (fun y=>Y21 (yQ y) Om) (fun _=>?_)⟩⟩
 exists 4,t,8,J,at0,p,rfl,⟨_,j⟩,Qmg (K:=K) (a:=p) (xs:=r.1.map V.int) (fun i m B=>(∃u:Option V,m=[some (.ref t),some (.int b),u])/\B=H/\∀x∈r.1.take i,x % b=0) ⟨⟨none,rfl⟩,rfl,fun _ h=>(nomatch h)⟩ (fun i m B _ h=>?_) ?_ ?_
 .obtain⟨_,rfl,_⟩:=h
  exact j
 .rintro i x m B l ⟨⟨u,rfl⟩,rfl,e⟩
  obtain⟨z,o,rfl⟩:=Yf l
  exists 4,4,7,(show(0:Int)<b by lia),rfl,4,ite2 (fun c=>q.no (fun d=>?_) (Same.refl _)) (fun c=>⟨⟨_,rfl⟩,rfl,fun x hx=>?_⟩)
  .have:=yQ (jXe.mp d z (kK o))
   have R:(!decide (V.int (z % b)=V.int 0))=true:=c
   rw[this]at R;exact Y21 R Dc
  .rw[Zh o]at hx
   rcases xK.mp hx with hx | hx
   .exact e x hx
   .rw[kW.mp hx]
    exact Classical.byContradiction fun y=>c (by show(!decide (V.int (z % b)=V.int 0))=true;rw[Qka,yV y];rfl)
 .rintro m B ⟨⟨u,rfl⟩,rfl,e⟩
  rw[jQ,wJ]at e
  have X:divides r b=true:=jXe.mpr fun x hx=>yJ (e x hx)
  exists 4,t,8,J,at0,p,rfl,⟨_,j⟩,fun D hD=>?_
  refine Qsc (n:=r.1.length) (fun T=>∃v:Option V,T=[v,some (.int b)]) (fun _=>true) (fun i=>V.int ((r.1.getD i 0).fdiv b)) hD Om ⟨none,rfl⟩ (fun i I O g=>⟨_,.int r.1[i],g.tup j,by rw[jZ,gE O];rfl⟩) (fun I g=>⟨_,g.tup j,by rw[jQ];exact jJ _⟩) ?_ (fun I g S=>?_)
  .rintro i T I x H9 O ⟨v,rfl⟩ g ⟨rfl,l⟩ P1 P2 h1 h2
   obtain⟨z,o,rfl⟩:=Yf (l _ (g.tup j))
   have W:=Qfc o
   exists 4,4,7,big1 Om Om,?_
   have:=h1 rfl [some (.int z),some (.int b)] _ ⟨_,rfl⟩ (Same.refl _)
   rw[W]at this
   exact this
  rw[Qto r.1 fun x=>x.fdiv b]at S
  exists D,4,.inl ⟨Qg S,fun L G=>?_⟩
  have N:=g.trans (Qb G (.tup ((r.1.map fun x=>x.fdiv b).map V.int)))
  exists 4,t,8,N.tup J,at1,7,4,7,big1 Om Om,7,Z1 2,fun t2 k=>?_
  have l:(r.1.map fun x=>x.fdiv b)=r.1.map fun x=>-((-x).fdiv b):=jJd fun x hx=>ex_div Om (e x hx)
  have e2:(0:Int)-(0-r.2).fdiv b=-((-r.2).fdiv b):=by rw[Int.zero_sub,Int.zero_sub]
  refine q.yes X (N.trans (Qb k _)) ⟨L,Qn (upd_same.trans (congrArg (fun z=>some (HO.tup [.ref L,.int z])) e2)),(Qb k _).tup ?_⟩
  show SqT K _ L ((r.1.map fun x=>-((-x).fdiv b)).map V.int)
  rw[<-l]
  exact Qn upd_same
abbrev sMst:Stmt:=top 52
abbrev sSho:Stmt:=top 53
abbrev sSht:Stmt:=top 54
theorem scMst:FnScope ["_law_row_here","_law_holds_here","_law_held","_law_total"] ["_law_row_here","_law_holds_here"] (Qf sMst):=Sc
theorem okMst(F:Fn K mg "_law_most" sMst)(M:Mg mg):qC 1 "_law_most" ["_law_row_here","_law_holds_here"] (Qpa K):=by
 refine Xf F scMst (a:=fun f ai A ad s H vs Q E hr h=>?_)
 obtain⟨t,l,r,B,rfl,rt,hh,hG,hn,aj,q⟩:=h
 refine⟨_,(Qd (Z4 2 scMst.nd (Zn ["_law_choice","_law_worth"] [none,none] rfl (Xq (pv 1)) (fun _ _ _=>(Yb (K:=K) (i:=0) (j:=1) rfl rfl (show(["_law_choice","_law_worth"]:List Str).Nodup by decide +kernel) rfl rfl rfl rfl)) (fun _ _ _=>Yc) (fun _ _ _=>(pv 0))))
  (Qd (Z4 3 scMst.nd (Qk (Qbw rfl) rfl M.sum Qnd (Qa (Zn ["_law_choice","_law_worth","_law_row_here"] [none,none,some 0] rfl (Xq (pv 1)) (fun _ _ _=>(Yb (K:=K) (i:=0) (j:=1) rfl rfl (show(["_law_choice","_law_worth","_law_row_here"]:List Str).Nodup by decide +kernel) rfl rfl rfl rfl)) (fun _ _ _=>Yc) (fun _ _ _=>(Qu Wj (Qo (Zz (K:=K) rfl) (Qo (Zz (K:=K) rfl) (pv 2) Qe) (pv 0)) (pv 1)))) Qc)))
  (Qh (Qp (Qu Yp (pv 3) (Qk (Qbw rfl) rfl M.sum Qnd (Qa (Zn ["_law_k","_law_row_here","_law_held"] [none,some 0,some 2] rfl (Yt rfl M.range_ (Qa (qL (Qo Qm (pv 0) Qe)) Qc)) (fun _ _ _=>(Z3 0 (show(["_law_k","_law_row_here","_law_held"]:List Str).Nodup by decide +kernel))) (fun _ _ _=>(pf_one (Qr (Qef (K:=K) rfl) (pv 0) (pv 2) rfl))) (fun _ _ _=>(Qk (Kc rfl) rfl M.max Qdl (Qa Qe (Qa (Qo (Zz (K:=K) rfl) (Qo (Zz (K:=K) rfl) (pv 1) Qe) (pv 0)) Qc))))) Qc))))))),?_⟩
 refine Ji ?_;intros
 exists"z"
 obtain⟨p,W,X⟩:=id rt
 obtain⟨Z,N,S⟩:=id hh
 have lv:=S.length
 rw[jQ]at lv
 exists 4,l,rfl,⟨_,N⟩,fun D hD=>?_
 let af:Nat->St->List V->Hp->Prop:=fun i d a R=>∃u v:Option V,d=[u,v]/\a=((B.map (·.1)).take i).map V.int/\R D=some (.lst a)/\Same H R
 refine Yg (n:=B.length) af ?_ (fun i d a R C h=>?_) (fun i d a R C h=>?_) (fun d a R h=>?_) ?_ ?_
 .exact⟨none,none,rfl,rfl,upd_same,Qb hD _⟩
 .obtain⟨u,v,rfl,rfl,g,z⟩:=h
  exists g,by rw[jQ,yY];lia
 .obtain⟨u,v,rfl,rfl,g,z⟩:=h
  exists Z,Z[i]'Om,z.seq N,gE Om
 .obtain⟨u,v,rfl,rfl,g,z⟩:=h
  exists Z,z.seq N,Om
 .rintro i d a R x I C ⟨u,v,rfl,rfl,g,z⟩ ⟨rfl,e1⟩
  obtain⟨T,c,w,rfl,ec,hT⟩:=Yw S (e1 _ (z.seq N)) z
  exists T,4,hT,rfl,_,4,7,?_
  exists 4,g,_,4,?_,upd_same,fun b o e=>?_
  .rw[Zh (show(B.map (·.1))[i]?=some c by rw[jZ,ec];rfl),kY];rfl
  .rw[Qj (Qi e hD)];exact z _ _ e
 rintro d a R ⟨u,v,rfl,rfl,g,z⟩
 rw[zX (by rw[jQ];exact jJ _)]at g
 exists 4,l,rfl,⟨_,z.seq N⟩,fun D2 aa=>?_
 let ag:Nat->St->List V->Hp->Prop:=fun i d a I=>∃u v:Option V,d=[u,v,some (.ref t)]/\a=((B.map fun p=>r.1.getD p.1.toNat 0*p.2).take i).map V.int/\I D2=some (.lst a)/\Same R I
 refine Yg (n:=B.length) ag ?_ (fun i d a I C h=>?_) (fun i d a I C h=>?_) (fun d a I h=>?_) ?_ ?_
 .exact⟨none,none,rfl,rfl,upd_same,Qb aa _⟩
 .obtain⟨u,v,rfl,rfl,O,G⟩:=h
  exists O,by rw[jQ,yY];lia
 .obtain⟨u,v,rfl,rfl,O,G⟩:=h
  exists Z,Z[i]'Om,(z.trans G).seq N,gE Om
 .obtain⟨u,v,rfl,rfl,O,G⟩:=h
  exists Z,(z.trans G).seq N,Om
 .rintro i d a I x J C ⟨u,v,rfl,rfl,O,G⟩ ⟨rfl,e1⟩
  have m:=z.trans G
  obtain⟨T,c,w,rfl,ec,hT⟩:=Yw S (e1 _ (m.seq N)) m
  obtain⟨g1,g2,g3⟩:=hG.ok (c,w) (kK ec)
  exists T,4,hT,rfl,_,4,7,?_
  exists 4,t,8,m.tup W,at0,4,p,8,m.tup X,atZ g1 g2,4,7,.inr ⟨by show -(2 ^ 64)<w;have:w=0\/w=1:=g3;lia,by show w<2 ^ 64;have:w=0\/w=1:=g3;lia⟩,O,_,4,?_,upd_same,fun b o e=>?_
  .rw[Zh (show(B.map fun p=>r.1.getD p.1.toNat 0*p.2)[i]?=some (r.1.getD c.toNat 0*w)by rw[jZ,ec];rfl),kY];rfl
  .rw[Qj (Qi e aa)];exact G _ _ e
 rintro d a I ⟨u2,v2,rfl,rfl,O,G⟩
 rw[zX (by rw[jQ];exact jJ _)]at O
 have m:=z.trans G
 exists D2,4,Qg O,?_
 have ln:(r.1.map V.int).length=r.1.length:=jQ ..
 exists 4,4,t,8,m.tup W,at0,p,4,.inr (m.tup X),4,Om,by rw[ln];lia,fun D3 ac=>?_
 refine Yg (n:=Int.toNat (((r.1.map V.int).length:Nat):Int)) (fun i d a J=>∃v:Option V,d=[v,some (.ref t),some (.ref D)]/\a=(((List.range i).filter fun(k:Nat)=>!decide ((k:Int)∈B.map (·.1))).map fun(k:Nat)=>addF none (r.1.getD k 0)).map V.int/\J D3=some (.lst a)/\Same I J) ?_ (fun i d a J C h=>?_) (fun i d a J C h=>C) (fun d a J h=>jJ _) ?_ ?_
 .exact⟨none,rfl,rfl,upd_same,Qb ac _⟩
 .obtain⟨v,rfl,rfl,U,Y⟩:=h
  exists U,?_
  have:=List.length_filter_le (fun(k:Nat)=>!decide ((k:Int)∈B.map (·.1))) (List.range i)
  rw[jXb]at this
  rw[jQ,jQ]
  rw[ln]at C
  lia
 .rintro i d a J x H4 C ⟨v,rfl,rfl,U,Y⟩ ⟨rfl,rfl⟩
  have ab:=G.trans Y
  have L:=z.trans ab
  have ae:i<r.1.length:=by rw[ln]at C;lia
  have ez:(0:Int)+(i:Int)=((i:Nat):Int):=Om
  rw[ez]
  exists 4,4,D,4,.inl (Qg (ab _ _ g)),rfl,Qoy _,4,?_
  rw[Qse]
  refine ite2 (fun y=>?_) (fun y=>?_)
  .have y':(!decide (((i:Nat):Int)∈B.map (·.1)))=true:=y
   exists 4,t,8,L.tup W,at0,4,p,8,L.tup X,atN ae,_,4,U,4,?_,upd_same,fun b o e=>?_
   .rw[jZd,kXf,kY,kY,kZd (p:=fun(k:Nat)=>!decide ((k:Int)∈B.map (·.1))) y'];rfl
   .rw[Qj (Qi e ac)];exact Y _ _ e
  .have y':¬(!decide (((i:Nat):Int)∈B.map (·.1)))=true:=y
   exists 4,?_,?_,Y
   .rw[jZd,kXf,kZe (p:=fun(k:Nat)=>!decide ((k:Int)∈B.map (·.1))) y',List.filter_nil,kXd]
   .rw[U]
 .rintro d a J ⟨v,rfl,rfl,U,Y⟩
  have en:Int.toNat (((r.1.map V.int).length:Nat):Int)=r.1.length:=by rw[ln];lia
  rw[en]at U
  have L:=m.trans Y
  have q5:=q J L
  rw[<-Qvd hG]at q5
  unfold Qoe at q5
  rw[Int.sub_add_cancel]at q5
  exists D3,4,Qg U,7,q5
theorem scSho:FnScope ["_law_many","_law_holds_here","_law_numbers","_law_choice","_law_worth"] ["_law_many","_law_holds_here"] (Qf sSho):=Sc
theorem okSho(F:Fn K mg "_law_shut_out" sSho)(M:Mg mg):qC 1 "_law_shut_out" ["_law_many","_law_holds_here"] (Qpc K):=by
 refine Xf F scSho (a:=fun f ah A aa s H vs Q E hr h=>?_)
 obtain⟨l,n,d,rfl,⟨U,J,z⟩,hG,hn,ai,q⟩:=h
 refine⟨_,(Qd (Z4 2 scSho.nd (Qu Vb (Xo (Qa Qe Qc)) (pv 0)))
  (Qd (Yo PassesOwn.never rfl (Xq (pv 1)) (Yb (K:=K) (i:=3) (j:=4) rfl rfl scSho.nd rfl rfl rfl rfl) (Qh (Zp (Qu Ys Qe (Qu Wj Qe (pv 4))) (Kx (pv 2) (pv 3) set_list))))
  (Qh (Qp (Qy (Qa (Qz Xb rfl M.tuple_ Xp (Qa (pv 2) Qc)) (Qa (Qu Ys Qe (Qk (Qbw rfl) rfl M.sum Qnd (Qa (Zn ["_law_choice","_law_worth"] [none,none] rfl (Xq (pv 1)) (fun _ _ _=>(Yb (K:=K) (i:=0) (j:=1) rfl rfl (show(["_law_choice","_law_worth"]:List Str).Nodup by decide +kernel) rfl rfl rfl rfl)) (fun _ _ _=>Yc) (fun _ _ _=>(pv 1))) Qc))) Qc))))))),?_⟩
 refine Ji ?_;intros
 exists"z"
 have lv:=z.length
 rw[jQ]at lv
 exists Z1 1,fun X S=>?_
 exists 4,X,(n:Int),4,rfl,upd_same,Om,Om,by show 1*((n:Int)).toNat<=sizeLine;lia,fun k C=>?_
 have e0:(qg ((n:Int)).toNat [V.int 0]).flatten=(qg n (0:Int)).map V.int:=rep0 n
 rw[e0]
 have s0:Same H (upd (upd H X (.lst [.int 0])) k (.lst ((qg n (0:Int)).map V.int))):=(Qb S _).trans (Qb C _)
 have gH:H k=none:=by
  cases e5:H k with
  |none=>rfl
  |some o=>rw[Qb S (.lst [.int 0]) _ _ e5]at C;cases C
 have hg:upd (upd H X (.lst [.int 0])) k (.lst ((qg n (0:Int)).map V.int)) k=some (.lst ((qg n (0:Int)).map V.int)):=upd_same
 generalize upd (upd H X (.lst [.int 0])) k (.lst ((qg n (0:Int)).map V.int))=H0 at s0 hg⊢
 let ac:Nat->St->Hp->Prop:=fun i Y I=>∃u v:Option V,Y=[some (.int (n:Int)),some (.ref l),some (.ref k),u,v]/\I k=some (.lst ((Yd n (d.take i)).map V.int))/\Same H I
 exists 4,l,rfl,⟨_,s0.seq J⟩,Zd (K:=K) (a:=l) (xs:=U) ac ⟨none,none,rfl,hg,s0⟩ (fun i Y I _ h=>?_) ?_ ?_
 .obtain⟨u,v,rfl,g,N⟩:=h
  exact N.seq J
 .rintro i x Y I e1 ⟨u,v,rfl,g,N⟩
  obtain⟨T,pr,rfl,ep,hT⟩:=z.get e1
  rw[jZ]at ep
  obtain⟨⟨c,w⟩,Z,rfl⟩:=zY.mp ep
  obtain⟨k1,k2,k3⟩:=hG.ok (c,w) (kK Z)
  have ak:0<=c:=k1
  have af:c<(n:Int):=k2
  have ad:(Yd n (d.take i)).length=n:=Qaz n _
  exists T,4,N.tup hT,rfl,_,4,7,?_
  exists 4,7,.inl ⟨Dc,Dc⟩,7,4,4,k,_,_,c.toNat,rfl,rfl,g,by rw[show c=((c.toNat:Nat):Int)by lia];exact Qby (by rw[jQ,ad];lia),?_
  exists some (.int c),some (.int w),rfl,?_,fun b o e=>?_
  .rw[upd_same,Qpb n Z,kXa]
  .rw[Qj (Qi e gH)];exact N _ _ e
 .rintro Y I ⟨u,v,rfl,g,N⟩
  have eT:d.take U.length=d:=by rw[lv,wJ]
  rw[eT]at g
  exists 4,k,4,.inl ⟨Qg g,fun W ab=>?_⟩
  have L:=N.trans (Qb ab (.tup ((Yd n d).map V.int)))
  have r:SqT K (upd I W (.tup ((Yd n d).map V.int))) W ((Yd n d).map V.int):=Qn upd_same
  generalize upd I W (.tup ((Yd n d).map V.int))=H2 at L r⊢
  exists 4,l,rfl,⟨_,L.seq J⟩,fun D hD=>?_
  let ae:Nat->St->List V->Hp->Prop:=fun i O G B=>∃u v:Option V,O=[u,v]/\G=((d.map fun p=>p.2).take i).map V.int/\B D=some (.lst G)/\Same H2 B
  refine Yg (n:=d.length) ae ?_ (fun i O G B hi h=>?_) (fun i O G B hi h=>?_) (fun O G B h=>?_) ?_ ?_
  .exact⟨none,none,rfl,rfl,upd_same,Qb hD _⟩
  .obtain⟨u,v,rfl,rfl,y,m⟩:=h
   exists y,by rw[jQ,yY];lia
  .obtain⟨u,v,rfl,rfl,y,m⟩:=h
   exists U,U[i]'Om,(L.trans m).seq J,gE Om
  .obtain⟨u,v,rfl,rfl,y,m⟩:=h
   exists U,(L.trans m).seq J,Om
  .rintro i O G B x H4 hi ⟨u,v,rfl,rfl,y,m⟩ ⟨rfl,e1⟩
   have R:=L.trans m
   obtain⟨T,c,w,rfl,Z,hT⟩:=Yw z (e1 _ (R.seq J)) R
   exists T,4,hT,rfl,_,4,7,4,y,_,4,?_,upd_same,fun b o e=>?_
   .rw[Zh (show(d.map fun p=>p.2)[i]?=some w by rw[jZ,Z];rfl),kY];rfl
   .rw[Qj (Qi e hD)];exact m _ _ e
  rintro O G B ⟨u2,v2,rfl,rfl,y,m⟩
  rw[zX (by rw[jQ];exact jJ _)]at y
  exists D,4,Qg y,7,Z1 2,fun t ht=>?_
  have s4:=Qb ht (.tup [.ref W,.int (1-(d.map fun p=>p.2).sum)])
  exact q t _ ((L.trans m).trans s4) ⟨W,Qn (by rw[upd_same,Qfj]),(m.trans s4).tup r⟩
theorem scSht:FnScope ["_law_row_here","_law_holds_here","_law_many","_law_hold"] ["_law_row_here","_law_holds_here"] (Qf sSht):=Sc
theorem okSht(F:Fn K mg "_law_shut" sSht)(M:Mg mg)(k:qC 1 "_law_is" ["_law_thing","_law_most_here"] (Qdt))(m:qC 1 "_law_most" ["_law_row_here","_law_holds_here"] (Qpa K))(g:qC 1 "_law_shut_out" ["_law_many","_law_holds_here"] (Qpc K)):qC 2 "_law_shut" ["_law_row_here","_law_holds_here"] (spSht K):=by
 refine Xf F scSht (a:=fun f am A ac s H vs Q E hr h=>?_)
 obtain⟨t,l,r,j,n,rfl,X,hh,aa,hG,hn,ap,q⟩:=h
 refine⟨_,(Qd (Z4 2 scSht.nd (qL (Qo Qm (pv 0) Qe)))
  (Qd (Xg (Xr (Xl (Qk Xn rfl M.isinstance Qx (Qa (pv 1) (Qa (Jh M.list_ Yu) Qc))))) (Qh (Qp Xh)) Qq)
  (Qd (Yo PassesOwn.never rfl (Xq (pv 1)) (Z3 3 scSht.nd) (Qh (Xg (PW.pt (Yx (Xr (Xl (Qk Xn rfl M.isinstance Qx (Qa (pv 3) (Qa (Jh M.tuple_ Xp) Qc))))) (Yx (Qr Qah (qL (pv 3)) Qe (Qs _)) (Yx (Xr (Xl (Xc k (hr.mono Dc) (Qa (Qo Qm (pv 3) Qe) (Qa (pv 2) Qc))))) (Yr (Xr (Xl (Xc k (hr.mono Dc) (Qa (Qo Qm (pv 3) Qe) (Qa Qe Qc)))))))))) (Qh (Qp Xh)) Qq)))
  (Qd (Xg (PW.pt (Yx (Qr Qah (Qk Wu rfl M.len Xa (Qa (Qz (Qch rfl) rfl M.set_ Qtk (Qa (Zn ["_law_hold"] [none] rfl (Xq (pv 1)) (fun _ _ _=>(Z3 0 Z2)) (fun _ _ _=>Yc) (fun _ _ _=>(Qo (Zz (K:=K) rfl) (pv 0) Qe))) Qc)) Qc)) (qL (pv 1)) (Qs _)) (Yr (Qr Qfu (Xc m (hr.mono Dc) (Qa (pv 0) (Qa (pv 1) Qc))) (Qo Qm (pv 0) Qe) (Qs _))))) (Qh (Qp Xh)) Qq)
  (Qh (Qp (Xc g (hr.mono Dc) (Qa (pv 2) (Qa (pv 1) Qc))))))))),?_⟩
 refine Wv ?_;intros
 exists"z"
 obtain⟨p,Y,ak⟩:=id X
 obtain⟨Z,G,L⟩:=id hh
 have lv:=L.length
 rw[jQ]at lv
 have ln:(r.1.map V.int).length=n:=by rw[jQ,aa]
 exists 4,t,8,Y,at0,p,4,.inr ak,?_
 exists 4,_,"list",true,rfl,.list,.inr ⟨⟨_,G⟩,rfl⟩,4,iteF ?_
 let ae:Nat->St->Hp->Prop:=fun i σ W=>(∃u:Option V,σ=[some (.ref t),some (.ref l),some (.int (((r.1.map V.int).length:Nat):Int)),u])/\W=H
 exists 4,l,rfl,⟨_,G⟩,Zd (K:=K) (a:=l) (xs:=Z) ae ⟨⟨none,rfl⟩,rfl⟩ (fun i σ W _ h=>?_) ?_ ?_
 .obtain⟨_,rfl⟩:=h
  exact G
 .rintro i x σ W e1 ⟨⟨u,rfl⟩,rfl⟩
  obtain⟨T,c,w,rfl,ec,O⟩:=Yw L e1 (Same.refl _)
  obtain⟨g1,g2,g3⟩:=hG.ok (c,w) (kK ec)
  have ag:0<=c:=g1
  have ab:c<(n:Int):=g2
  have aq:w=0\/w=1:=g3
  exists 4,_,"tuple",true,rfl,.tuple,.inl ⟨⟨_,O⟩,rfl⟩,4,iteF ?_
  exists 4,T,4,.inr O,rfl,4,iteF ?_
  exists 4,T,8,O,at0,4,c,4,fun c1 ad=>⟨_,rfl,ite2 (fun y=>?_) (fun _=>?_)⟩
  .rw[ad.mpr ⟨ag,by rw[ln];exact ab⟩]at y;exact Y21 y Dc
  exists 4,T,8,O,at1,w,2,rfl,fun c2 ah=>⟨_,rfl,ite2 (fun y=>?_) (fun _=>⟨⟨_,rfl⟩,rfl⟩)⟩
  rw[ah.mpr ⟨Om,Om⟩]at y;exact Y21 y Dc
 .rintro σ W ⟨⟨u,rfl⟩,rfl⟩
  exists 4,l,rfl,⟨_,G⟩,fun D hD=>?_
  let aj:Nat->St->List V->Hp->Prop:=fun i R N C=>∃v:Option V,R=[v]/\N=((j.map (·.1)).take i).map V.int/\C D=some (.lst N)/\Same W C
  refine Yg (n:=j.length) aj ?_ (fun i R N C hi h=>?_) (fun i R N C hi h=>?_) (fun R N C h=>?_) ?_ ?_
  .exact⟨none,rfl,rfl,upd_same,Qb hD _⟩
  .obtain⟨v,rfl,rfl,J,B⟩:=h
   exists J,by rw[jQ,yY];lia
  .obtain⟨v,rfl,rfl,J,B⟩:=h
   exists Z,Z[i]'Om,B.seq G,gE Om
  .obtain⟨v,rfl,rfl,J,B⟩:=h
   exists Z,B.seq G,Om
  .rintro i R N C x H3 hi ⟨v,rfl,rfl,J,B⟩ ⟨rfl,e1⟩
   obtain⟨T,c,w,rfl,ec,O⟩:=Yw L (e1 _ (B.seq G)) B
   exists 4,T,8,O,at0,J,4,?_,upd_same,fun b o e=>?_
   .rw[Zh (show(j.map (·.1))[i]?=some c by rw[jZ,ec];rfl),kY];rfl
   .rw[Qj (Qi e hD)];exact B _ _ e
  rintro R N C ⟨v,rfl,rfl,J,B⟩
  rw[zX (by rw[jQ];exact jJ _)]at J
  exists D,j.map (·.1),rfl,Qg J,by rw[jQ];lia,fun d S hd=>?_
  have I:=B.trans (Qb hd (.set S ((j.map (·.1)).foldl PyProof.Rows.step_dedup []).length))
  have dn:((j.map (·.1)).foldl PyProof.Rows.step_dedup []).length=j.length:=by rw[(Qci _).mpr hG.nd,jQ]
  have U:upd C d (.set S ((j.map (·.1)).foldl PyProof.Rows.step_dedup []).length) d=some (.set S ((j.map (·.1)).foldl PyProof.Rows.step_dedup []).length):=upd_same
  generalize upd C d (.set S ((j.map (·.1)).foldl PyProof.Rows.step_dedup []).length)=H3 at I U⊢
  exists d,S,4,U,4,l,4,.inl (I.seq G),rfl,4,?_
  rw[dn,show Z.length=j.length from lv]
  refine ite2 (fun e=>Y21 e (by simp)) (fun _=>?_)
  have ai:Good r.1.length j:=by rw[aa];exact hG
  exists 4,4,t,l,r,j,rfl,X.same I,hh.same I,ai,Om,Om,fun H4 s4=>⟨_,rfl,t,_,_,_,rfl,rfl,(I.trans s4).tup Y,at1,_,_,rfl,rfl,_,rfl,?_⟩
  refine ite2 (fun e=>q.no (fun z=>?_) (I.trans s4)) (fun e=>?_)
  .have e':r.2<=Qaa r j:=yQ e
   lia
  .have e':Qaa r j<r.2:=by
    have:¬r.2<=Qaa r j:=fun z=>e (yJ z)
    lia
   exists 4,4,l,n,j,by rw[ln];rfl,hh.same (I.trans s4),hG,hn,Om,fun t' H5 s5 af=>q.yes e' ((I.trans s4).trans s5) af
inductive spEit(K:Fg)(vs:List V)(H:Hp)(Q:VK)(E:XK):Prop|mk(t1 t2:Addr)(r1 r2:List Int×Int)(c n:Nat)(_:vs=[.ref t1,.ref t2,.int (c:Int)])(_:RowAt K H t1 r1)(_:RowAt K H t2 r2)(_:r1.1.length=n)(_:r2.1.length=n)(_:n<=1000)(_:c<n)(_:AnsO K H Q (if Xi r1.1 c=Xi r2.1 c then some (Ke r1 r2 c)else none)):spEit K vs H Q E
def InH(hd:List Rw)(k:Int):Prop:=0<=k/\k<(hd.length:Int)
noncomputable instance (hd:List Rw) (k:Int):Decidable (InH hd k):=inferInstanceAs (Decidable (_/\_))
def pI(hd:List Rw)(ps:List (Int×Int)):List Part:=ps.map fun p=>(rowK hd p.1.toNat,p.2)
def Qcu(hd:List Rw)(ps:List (Int×Int)):Prop:=ps≠[]/\∀p∈ps,InH hd p.1
noncomputable instance (hd:List Rw) (ps:List (Int×Int)):Decidable (Qcu hd ps):=inferInstanceAs (Decidable (_/\_))
inductive Qpd(K:Fg)(vs:List V)(H:Hp)(Q:VK)(E:XK):Prop|mk(t h l:Addr)(rs hd:List (List Int×Int))(cs:List Int)(ws:List V)(ps:List (Int×Int))(_:vs=[.ref t,.ref h,.ref l])(_:ProbAt K H t rs cs)(_:SqL K H h ws)(_:RowsAre K H ws hd)(_:(∀r∈hd,r.1.length=cs.length))(_:hd.length<=2000)(_:HoldsAt K H l ps)(_:(∀p∈ps,0<=p.2/\p.2<=3))(_:cs.length<=1000)(_:AnsO K H Q (if Qcu hd ps then some (Yq cs.length (pI hd ps))else none)):Qpd K vs H Q E
theorem Qaq{hd:List (List Int×Int)}{k:Int}(h:RowsAre K H ws hd)(g:0<=k)(d:k<(hd.length:Int)):∃t,atI ws k=some (.ref t)/\RowAt K H t (rowK hd k.toNat)/\rowK hd k.toNat∈hd:=by
 have f:=Paired.length h
 have b:k.toNat<ws.length:=Om
 obtain⟨r,a,t,e,z⟩:=L2.Xw h (gE b)
 have q:atI ws ((k.toNat:Nat):Int)=some (.ref t):=Zx (by rw[gE b,e])
 rw[show((k.toNat:Nat):Int)=k by lia]at q
 have c:rowK hd k.toNat=r:=by unfold rowK;rw[jY,a];rfl
 rw[c]
 exists t,q,z,kK a
theorem zipV{xs ys:List Int}(f:Int->Int->Int)(b:xs.length=n)(a:ys.length=n):((List.range n).filter fun _=>true).map (fun k=>V.int (f (xs.getD k 0) (ys.getD k 0)))=(List.zipWith f xs ys).map V.int:=by
 rw[Qfh]
 refine jYf fun k=>?_
 rw[jZ,jZ]
 by_cases h:k<n
 .rw[kXc h,List.getElem?_zipWith,gE (show k<xs.length by lia),gE (show k<ys.length by lia)]
  show some (V.int (f (xs.getD k 0) (ys.getD k 0)))=some (V.int (f xs[k] ys[k]))
  rw[jY,jY,gE (show k<xs.length by lia),gE (show k<ys.length by lia)];rfl
 .rw[wX (by rw[jXb];lia),wX (by rw[yQa];lia)];rfl
theorem pI_len{ps:List (Int×Int)}(e:∀r∈hd,r.1.length=n)(h:∀p∈ps,InH hd p.1):∀q∈pI hd ps,q.1.1.length=n:=fun q d=>by
 obtain⟨p,c,rfl⟩:=zJ.mp d
 obtain⟨a,b⟩:=h p c
 exact Qkf e Om
def SL(K:Fg)(H:Hp)(u:Addr)(rs:List Rw)(cs:List Int)(best:Option Int)(o:Option Rw):Prop:=(SqT K H u [.str "better"]/\o=best.map (Vi cs))\/∃k:Int,(SqT K H u [.str "given",.int k]/\o=if InH rs k then some (rowK rs k.toNat)else none)\/(SqT K H u [.str "low",.int k]/\o=if 0<=k/\k<(cs.length:Int)then some (Yk cs.length k.toNat 1 0)else none)\/(SqT K H u [.str "high",.int k]/\o=if 0<=k/\k<(cs.length:Int)then some (Yk cs.length k.toNat (-1) (-1))else none)
inductive Qpe(K:Fg)(vs:List V)(H:Hp)(Q:VK)(E:XK):Prop|mk(t u:Addr)(rs:List (List Int×Int))(cs:List Int)(best:Option Int)(o:Option Rw)(_:vs=[.ref t,Xm best,.ref u])(_:ProbAt K H t rs cs)(_:(∀r∈rs,r.1.length=cs.length))(_:SL K H u rs cs best o)(_:cs.length<=1000)(_:rs.length<=1000)(_:AnsO K H Q o):Qpe K vs H Q E
abbrev sEit:Stmt:=top 55
abbrev sSum:Stmt:=top 50
theorem scEit:FnScope ["_law_one","_law_other_here","_law_at","_law_k"] ["_law_one","_law_other_here","_law_at"] (Qf sEit):=Sc
theorem okEit(F:Fn K mg "_law_either" sEit)(M:Mg mg):qC 1 "_law_either" ["_law_one","_law_other_here","_law_at"] (spEit K):=by
 refine Xf F scEit (a:=fun f ad A U s H vs Q E hr h=>?_)
 obtain⟨g,G,a,D,c,n,rfl,⟨x,p,B⟩,⟨p2,Z,b2⟩,C,l2,hn,j,q⟩:=h
 refine⟨_,(Qd (Yo PassesOwn.never rfl (Yt rfl M.range_ (Qa (qL (Qo Qm (pv 0) Qe)) Qc)) (Z3 3 scEit.nd) (Qh (Xg (PW.pt (Ko (Qr Qah (pv 3) (pv 2) (Qs _)) (Ju (Qr Qah (Qo Qm (Qo Qm (pv 0) Qe) (pv 3)) (Qo Qm (Qo Qm (pv 1) Qe) (pv 3)) (Qs _))))) (Qh (Qp Xh)) Qq)))
  (Qh (Qp (Qy (Qa (Qu Qdy (Qu Qca (Yi Qdj (Qo Qm (pv 0) Qe) Zv (Yj (pv 2))) (Qy (Qa Qe Qc))) (Yi Qdj (Qo Qm (pv 0) Qe) (Yj (Qu Yp (pv 2) Qe)) Zv)) (Qa (Qk (Qfw rfl) rfl M.min Qth (Qa (Qu Ys (Qo Qm (pv 0) Qe) (Qo Qm (Qo Qm (pv 0) Qe) (pv 2))) (Qa (Qo Qm (pv 1) Qe) Qc))) Qc)))))),?_⟩
 exists"z"
 have r:(a.1.map V.int).length=n:=by rw[jQ,C]
 have I:cutV (a.1.map V.int) none (some (c:Int))=(a.1.take c).map V.int:=by
  unfold cutV
  show((a.1.map V.int).drop 0).take ((if (c:Int)<0 then((c:Int)+((a.1.map V.int).length:Int)).toNat else min ((c:Int)).toNat (a.1.map V.int).length)-0)=_
  rw[Y20 (kXe.mpr (jYe c)),List.drop_zero,kZa,r,jQc,jXd (kQd j),Nat.sub_zero]
 have J:cutV (a.1.map V.int) (some ((c:Int)+1)) none=(a.1.drop (c+1)).map V.int:=by
  unfold cutV
  show((a.1.map V.int).drop (if (c:Int)+1<0 then((c:Int)+1+((a.1.map V.int).length:Int)).toNat else min ((c:Int)+1).toNat (a.1.map V.int).length)).take ((a.1.map V.int).length-(if (c:Int)+1<0 then((c:Int)+1+((a.1.map V.int).length:Int)).toNat else min ((c:Int)+1).toNat (a.1.map V.int).length))=_
  rw[Y20 (show ¬(c:Int)+1<0 from kXe.mpr (jYe (c+1))),kZb]
  have e:min ((c:Int)+1).toNat (a.1.map V.int).length=c+1:=by rw[r];exact jXd (show c+1<=n from j)
  rw[e]
  apply zX
  rw[wY]
  exact jJ _
 exists 4,g,8,p,at0,x,4,.inr B,4,Om,by rw[r];lia,Kb (lo:=0) (n:=Int.toNat (((a.1.map V.int).length:Nat):Int)) (fun i T W=>(∃u:Option V,T=[some (.ref g),some (.ref G),some (.int (c:Int)),u])/\W=H/\∀k,k<i->k≠c->a.1.getD k 0=D.1.getD k 0) ⟨⟨none,rfl⟩,rfl,fun k S=>Y21 S (Nat.not_lt_zero k)⟩ ?_ ?_
 .rintro i T W hi ⟨⟨u,rfl⟩,rfl,m⟩
  have v:i<n:=by rw[r]at hi;lia
  have ez:(0:Int)+(i:Int)=((i:Nat):Int):=Om
  rw[ez]
  exists 4,4,rfl,4,ite2 (fun d=>?_) (fun d=>iteF ⟨⟨_,rfl⟩,rfl,fun k S N=>?_⟩)
  case refine_2=>
   have ic:i=c:=Classical.byContradiction fun z=>d (by show(!decide (V.int ((i:Nat):Int)=V.int ((c:Nat):Int)))=true;rw[Qka,yV Om];rfl)
   exact m k Om N
  have nc:i≠c:=fun z=>by
   rw[z]at d
   exact Y21 d (by simp)
  exists 4,g,8,p,at0,4,x,8,B,atN (by rw[C];exact v),4,G,8,Z,at0,4,p2,8,b2,atN (by rw[l2];exact v),rfl,4,?_
  refine ite2 (fun e=>q.no (fun z=>?_) (Same.refl _)) (fun e=>⟨⟨_,rfl⟩,rfl,fun k S N=>?_⟩)
  .have:=(Qct C l2 j).mp z i v nc
   have e':(!decide (V.int (a.1.getD i 0)=V.int (D.1.getD i 0)))=true:=e
   rw[this]at e';exact Y21 e' (by simp)
  .by_cases ac:k<i
   .exact m k ac N
   .have ki:k=i:=Om
    rw[ki]
    exact Classical.byContradiction fun y=>e (by show(!decide (V.int (a.1.getD i 0)=V.int (D.1.getD i 0)))=true;rw[Qka,yV y];rfl)
 .rintro T W ⟨⟨u,rfl⟩,rfl,m⟩
  have hw:Xi a.1 c=Xi D.1 c:=(Qct C l2 j).mpr fun k S N=>m k (by rw[r];lia) N
  exists 4,g,8,p,at0,4,4,x,4,B,?_,fun q1 aa=>?_
  .rintro⟨_,h2⟩
   have o:(if (c:Int)<0 then((c:Int)+((a.1.map V.int).length:Int)).toNat else min ((c:Int)).toNat (a.1.map V.int).length)=(a.1.map V.int).length:=h2
   rw[Y20 (kXe.mpr (jYe c)),r,jQc,jXd (kQd j)]at o
   exact Y21 o (xQ j)
  rw[I]
  have s1:=Qb aa (.tup ((a.1.take c).map V.int))
  exists Z1 1,fun q2 X=>?_
  have s2:=Qb X (.tup [V.int 0])
  exists q1,q2,7,s2.tup (Qn upd_same),Qn upd_same,by simp,by rw[jQ,yY];show _+1<=_;lia,fun q3 H3 s3 o=>?_
  have l:=(s1.trans s2).trans s3
  exists 4,g,8,l.tup p,at0,4,7,4,x,4,l.tup B,?_,fun q4 Y=>?_
  .rintro⟨h2,_⟩
   have o:(if (c:Int)+1<0 then((c:Int)+1+((a.1.map V.int).length:Int)).toNat else min ((c:Int)+1).toNat (a.1.map V.int).length)=0:=h2
   rw[Y20 (show ¬(c:Int)+1<0 from kXe.mpr (jYe (c+1))),r]at o
   exact Y21 ((jXd (show c+1<=n from j)).symm.trans o) (kZc c)
  rw[J]
  have O:=Qb Y (.tup ((a.1.drop (c+1)).map V.int))
  have eW:(Xi a.1 c).map V.int=((a.1.take c).map V.int++[V.int 0])++(a.1.drop (c+1)).map V.int:=by
   unfold Xi;rw[kY,kY];rfl
  exists q3,q4,7,O.tup o,Qn upd_same,by simp,by rw[jV,jQ,jQ,yY,wY];show _+1+_<=_;lia,fun he=>?_,fun he q5 ab=>?_
  .have b:=l.trans O
   have R:=O.tup o
   rw[he,kXd]at eW
   rw[<-eW]at R
   exists 4,g,8,b.tup p,at1,4,g,8,b.tup p,at0,4,x,8,b.tup B,atN (by rw[C];exact j),7,4,G,8,b.tup Z,at1,_,4,Z1 2,fun t L=>?_
   exact q.yes hw (b.trans (Qb L _)) ⟨_,Qn upd_same,(Qb L _).tup R⟩
  .have b:=(l.trans O).trans (Qb ab (.tup (((a.1.take c).map V.int++[V.int 0])++(a.1.drop (c+1)).map V.int)))
   have R:SqT K (upd (upd H3 q4 (.tup ((a.1.drop (c+1)).map V.int))) q5 (.tup (((a.1.take c).map V.int++[V.int 0])++(a.1.drop (c+1)).map V.int))) q5 ((Xi a.1 c).map V.int):=by rw[eW];exact Qn upd_same
   exists 4,g,8,b.tup p,at1,4,g,8,b.tup p,at0,4,x,8,b.tup B,atN (by rw[C];exact j),7,4,G,8,b.tup Z,at1,_,4,Z1 2,fun t L=>?_
   exact q.yes hw (b.trans (Qb L _)) ⟨_,Qn upd_same,(Qb L _).tup R⟩
theorem scSum:FnScope ["_law_problem_here","_law_heard","_law_parts","_law_numbers","_law_least","_law_part","_law_row_here"] ["_law_problem_here","_law_heard","_law_parts"] (Qf sSum):=Sc
theorem okSum(F:Fn K mg "_law_summed" sSum)(M:Mg mg)(N:qC 1 "_law_is" ["_law_thing","_law_most_here"] (Qdt)):qC 2 "_law_summed" ["_law_problem_here","_law_heard","_law_parts"] (Qpd K):=by
 refine Xf F scSum (a:=fun f au A ak s H vs Q E hr h=>?_)
 obtain⟨t,h,l,rs,C,d,ws,I,rfl,⟨lP,c,vP,ht,aA,aw,hc⟩,hw,ad,ab,av,⟨us,G,ae⟩,an,hn,q⟩:=h
 refine⟨_,(Qd (Xg (PW.pt (Yx (Xr (Xl (Qk Xn rfl M.isinstance Qx (Qa (pv 2) (Qa (Jh M.list_ Yu) Qc))))) (Yr (Qr Yh (qL (pv 2)) Qe (Qs _))))) (Qh (Qp Xh)) Qq)
  (Qd (Z4 3 scSum.nd (Qu Vb (Xo (Qa Qe Qc)) (qL (Qo Qm (pv 0) Qe))))
  (Qd (Z4 4 scSum.nd Qe)
  (Qd (Yo PassesOwn.never rfl (Xq (pv 2)) (Z3 5 scSum.nd) (Qd (Xg (PW.pt (Yx (Xr (Xl (Qk Xn rfl M.isinstance Qx (Qa (pv 5) (Qa (Jh M.tuple_ Xp) Qc))))) (Yx (Qr Qah (qL (pv 5)) Qe (Qs _)) (Yr (Xr (Xl (Xc N (hr.mono Dc) (Qa (Qo Qm (pv 5) Qe) (Qa (qL (pv 1)) Qc))))))))) (Qh (Qp Xh)) Qq)
  (Qd (Xg (PW.pt (Yx (Xr (Xl (Qk Xn rfl M.isinstance Qx (Qa (Qo Qm (pv 5) Qe) (Qa (Jh M.int_ Vc) Qc))))) (Yx (Xl (Qk Xn rfl M.isinstance Qx (Qa (Qo Qm (pv 5) Qe) (Qa (Jh M.bool_ Qed) Qc)))) (Yr (Qr Qft (Qo Qm (pv 5) Qe) Qe (Qs _)))))) (Qh (Qp Xh)) Qq)
  (Qd (Z4 6 scSum.nd (Qo ix_list (pv 1) (Qo Qm (pv 5) Qe)))
  (Qd (Z4 3 scSum.nd (Zn ["_law_k","_law_numbers","_law_part","_law_row_here"] [none,some 3,some 5,some 6] rfl (Yt rfl M.range_ (Qa (qL (pv 3)) Qc)) (fun _ _ _=>(Z3 0 (show(["_law_k","_law_numbers","_law_part","_law_row_here"]:List Str).Nodup by decide +kernel))) (fun _ _ _=>Yc) (fun _ _ _=>(Qu Yp (Qo (Kh (K:=K) rfl) (pv 1) (pv 0)) (Qu Wj (Qo (Zz (K:=K) rfl) (pv 2) Qe) (Qo (Zz (K:=K) rfl) (Qo (Zz (K:=K) rfl) (pv 3) Qe) (pv 0)))))))
  (Qh (Z4 4 scSum.nd (Qu Yp (pv 4) (Qu Wj (Qo Qm (pv 5) Qe) (Qo Qm (pv 6) Qe))))))))))
  (Qh (Qp (Qy (Qa (Qz Xb rfl M.tuple_ Xp (Qa (pv 3) Qc)) (Qa (pv 4) Qc))))))))),?_⟩
 refine Wv ?_;intros
 exists"z"
 have lc:(d.map V.int).length=d.length:=jQ ..
 have lw:=Paired.length ad
 have lv:=ae.length
 rw[jQ]at lv
 exists 4,_,"list",true,rfl,.list,.inr ⟨⟨_,G⟩,rfl⟩,4,iteF ⟨_,rfl,l,_,rfl,.inl G,rfl,_,rfl,ite2 (fun y=>q.no (fun z=>z.1 ?_) (Same.refl _)) (fun y=>?_)⟩
 .have y0:(us.length:Int)=0:=V.int.inj (yQ y)
  exact jYd Om
 have al:I≠[]:=fun z=>y (by show decide (V.int (us.length:Int)=V.int 0)=true;rw[lv,z];rfl)
 exists Z1 1,fun p0 ao=>?_
 have s0:=Qb ao (.lst [.int 0])
 have J:upd H p0 (.lst [.int 0]) p0=some (.lst [.int 0]):=upd_same
 generalize upd H p0 (.lst [.int 0])=H0 at s0 J⊢
 exists 4,t,8,s0.tup ht,at1,c,4,.inr (s0.tup hc),p0,(((d.map V.int).length:Nat):Int),4,rfl,J,Om,Om,by show 1*((((d.map V.int).length:Nat):Int)).toNat<=sizeLine;lia,fun W S=>?_
 rw[Qhh]
 have O:=s0.trans (Qb S (.lst ((qg (d.map V.int).length (0:Int)).map V.int)))
 have R:upd H0 W (.lst ((qg (d.map V.int).length (0:Int)).map V.int)) W=some (.lst ((qg (d.map V.int).length (0:Int)).map V.int)):=upd_same
 have gH:H W=none:=by
  cases e5:H W with
  |none=>rfl
  |some o=>rw[s0 _ _ e5]at S;cases S
 generalize upd H0 W (.lst ((qg (d.map V.int).length (0:Int)).map V.int))=H1 at O R⊢
 rw[lc]at R
 exists 4,l,rfl,⟨_,O.seq G⟩,Zd (K:=K) (a:=l) (xs:=us) (fun i σ H2=>∃(D:Addr) (u v:Option V),σ=[some (.ref t),some (.ref h),some (.ref l),some (.ref D),some (.int (Yq d.length (pI C (I.take i))).2),u,v]/\H2 D=some (.lst ((Yq d.length (pI C (I.take i))).1.map V.int))/\(∀p∈I.take i,InH C p.1)/\Same H H2) ⟨W,none,none,rfl,R,fun _ h=>(nomatch h),O⟩ (fun i σ H2 _ h=>?_) ?_ ?_
 .obtain⟨D,u,v,rfl,_,_,m⟩:=h
  exact m.seq G
 .rintro i x σ H2 e1 ⟨D,u,v,rfl,e,g,m⟩
  have ac:=Qam d.length _ (pI_len ab g)
  have aq:=(jW.mp e1).1
  obtain⟨T,a,b,rfl,ec,B⟩:=Yw ae e1 m
  obtain⟨b0,b3⟩:=an (a,b) (kK ec)
  have aB:0<=b:=b0
  have az:b<=3:=b3
  exists 4,_,"tuple",true,rfl,.tuple,.inl ⟨⟨_,B⟩,rfl⟩,4,iteF ⟨_,rfl,T,_,rfl,.inr B,rfl,_,rfl,iteF ?_⟩
  exists 4,T,8,B,at0,4,h,4,.inl (m.seq hw),a,4,fun bb X=>⟨_,rfl,ite2 (fun y=>q.no (fun z=>?_) m) (fun y=>?_)⟩
  .have:=z.2 (a,b) (kK ec)
   rw[X.mpr ⟨this.1,by rw[lw];exact this.2⟩]at y;exact Y21 y Dc
  have ai:bb=true:=by
   cases bb with
   |true=>rfl
   |false=>exact Y21 rfl y
  obtain⟨a0,a1⟩:=X.mp ai
  exists 4,T,8,B,at1,_,"int",true,rfl,.int,rfl,4,iteF ⟨_,rfl,T,_,_,_,rfl,rfl,B,at1,_,"bool",false,rfl,.bool,rfl,_,rfl,iteF ⟨_,rfl,T,_,_,_,rfl,rfl,B,at1,_,_,rfl,rfl,_,rfl,ite2 (fun y=>Y21 (yQ y) Om) (fun _=>?_)⟩⟩
  obtain⟨tr,ag,⟨pr,L,af⟩,aa⟩:=Qaq (ad.imp fun _ _ z=>z.same m) a0 (by rw[<-lw];exact a1)
  have Z:=ab _ aa
  have U:Yq d.length (pI C (I.take (i+1)))=addPart (Yq d.length (pI C (I.take i))) (rowK C a.toNat,b):=by
   unfold pI Yq
   rw[Zh ec,kY,jZa];rfl
  generalize rowK C a.toNat=r at L af aa Z U
  generalize Yq d.length (pI C (I.take i))=SR at e ac U⊢
  exists 4,4,T,8,B,at0,h,8,m.seq hw,ag,?_
  exists 4,D,4,.inl (Qg e),4,Om,by rw[jQ];lia,fun D3 ap=>?_
  refine Qsc (n:=d.length) (fun τ=>∃v:Option V,τ=[v,some (.ref D),some (.ref T),some (.ref tr)]) (fun _=>true) (fun k=>V.int (SR.1.getD k 0+b*r.1.getD k 0)) ap Om ⟨none,rfl⟩ (fun k H3 hk j=>by show k<Int.toNat _;rw[jQ];lia) (fun H3 j=>by show Int.toNat _<=_;rw[jQ];lia) ?_ (fun H3 j hE=>?_)
  .rintro k τ H3 x H9 hk ⟨v,rfl⟩ j ⟨rfl,rfl⟩ P1 P2 h1 h2
   have ah:=atN (ns:=SR.1) (i:=k) Om
   have aj:=atN (ns:=r.1) (i:=k) Om
   have ek:(0:Int)+(k:Int)=((k:Nat):Int):=Om
   rw[ek]
   exists 4,4,D,8,Qg (j _ _ e),ah,4,T,8,j.tup B,at1,4,tr,8,j.tup L,at0,4,pr,8,j.tup af,aj,7,.inl ⟨by show -(2 ^ 64)<b;lia,by show b<2 ^ 64;lia⟩,7,h1 rfl _ _ ⟨_,rfl⟩ (Same.refl _)
  rw[zipV (fun x y=>x+b*y) ac Z]at hE
  exists 4,4,T,8,j.tup B,at1,4,tr,8,j.tup L,at1,7,.inl ⟨by show -(2 ^ 64)<b;lia,by show b<2 ^ 64;lia⟩,7,?_
  rw[U]
  exists D3,_,4,hE,fun p hp=>?_,m.trans j
  rw[Zh ec]at hp
  rcases xK.mp hp with hp | hp
  .exact g p hp
  .rw[kW.mp hp];exists a0,by rw[<-lw];exact a1
 .rintro σ H2 ⟨D,u,v,rfl,e,g,m⟩
  rw[zX Om]at g e
  exists 4,D,4,.inl ⟨Qg e,fun l2 am=>⟨_,rfl,Z1 2,fun t2 Y=>?_⟩⟩
  rw[zX Om]
  exact q.yes ⟨al,g⟩ ((m.trans (Qb am _)).trans (Qb Y _)) ⟨l2,Qn upd_same,(Qb Y _).tup (Qn upd_same)⟩
abbrev sSim:Stmt:=top 49
theorem scSim:FnScope ["_law_problem_here","_law_best","_law_line","_law_numbers"] ["_law_problem_here","_law_best","_law_line"] (Qf sSim):=Sc
theorem okSim(F:Fn K mg "_law_simple" sSim)(M:Mg mg)(ad:qC 1 "_law_is" ["_law_thing","_law_most_here"] (Qdt)):qC 2 "_law_simple" ["_law_problem_here","_law_best","_law_line"] (Qpe K):=by
 refine Xf F scSim (a:=fun f ao A aj s H L Q E hr h=>?_)
 obtain⟨t,u,rs,a,aa,o,rfl,⟨l,c,L,ht,hl,af,hc⟩,ap,ak,hn,hm,q⟩:=h
 have ah:=Z6 6 hr.un
 have Z:=Z6 1 hr.un
 refine⟨_,(Qd (Z4 3 scSim.nd (Qu Vb (Xo (Qa Qe Qc)) (qL (Qo Qm (pv 0) Qe))))
  (Qd (Xg (Qr (op_eqW ah) (pv 2) (Qy (Qa Xj Qc)) (Qs _)) (Qd (Xg (Qr Qax (pv 1) Xh (Qs _)) (Qh (Qp Xh)) Qq)
  (Qh (Qp (Qy (Qa (Qz Xb rfl M.tuple_ Xp (Qa (Zn ["_law_cost"] [none] rfl (Qaw (Qo Qm (pv 0) Qe)) (fun _ _ _=>(Z3 0 Z2)) (fun _ _ _=>Yc) (fun _ _ _=>(Qu Ys Qe (pv 0)))) Qc)) (Qa (Qu Ys Qe (pv 1)) Qc)))))) Qq)
  (Qd (Xg (PW.pt (Yx (Qr Qah (qL (pv 2)) Qe (Qs _)) (Yr (Xr (Xl (Xc ad (hr.mono Dc) (Qa (Qo Qm (pv 2) Qe) (Qa (Qo ix_list (Xo (Qa (qL (pv 3)) (Qa (qL (Qo Qm (pv 0) Qe)) Qc))) (Qz Jp rfl M.int_ Vc (Qa (Xz Yh (Qo Qm (pv 2) Qe) Xj (Qs _)) Qc))) Qc)))))))) (Qh (Qp Xh)) Qq)
  (Qd (Xg (Qr Yh (Qo Qm (pv 2) Qe) Xj (Qs _)) (Qh (Qp (Qo ix_list (Qo Qm (pv 0) Qe) (Qo Qm (pv 2) Qe)))) Qq)
  (Qd (Xg (Qr Yh (Qo Qm (pv 2) Qe) Xj (Qs _)) (Qd (Zp Qe (Kx (pv 3) (Qo Qm (pv 2) Qe) set_list))
  (Qh (Qp (Qy (Qa (Qz Xb rfl M.tuple_ Xp (Qa (pv 3) Qc)) (Qa Qe Qc)))))) Qq)
  (Qd (Xg (Qr Yh (Qo Qm (pv 2) Qe) Xj (Qs _)) (Qd (Zp (Wi Jr Qe) (Kx (pv 3) (Qo Qm (pv 2) Qe) set_list))
  (Qh (Qp (Qy (Qa (Qz Xb rfl M.tuple_ Xp (Qa (pv 3) Qc)) (Qa (Wi Jr Qe) Qc)))))) Qq)
  (Qh (Qp Xh)))))))),?_⟩
 refine Qeo ?_;intros
 exists"z"
 have lr:=Paired.length af
 have lc:(a.map V.int).length=a.length:=jQ ..
 exists Z1 1,fun p0 am=>?_
 have s0:=Qb am (.lst [.int 0])
 have ab:upd H p0 (.lst [.int 0]) p0=some (.lst [.int 0]):=upd_same
 generalize upd H p0 (.lst [.int 0])=H0 at s0 ab⊢
 exists 4,t,8,s0.tup ht,at1,c,4,.inr (s0.tup hc),p0,(((a.map V.int).length:Nat):Int),4,rfl,ab,Om,Om,by show 1*((((a.map V.int).length:Nat):Int)).toNat<=sizeLine;lia,fun r ae=>?_
 rw[Qhh]
 have ag:=s0.trans (Qb ae (.lst ((qg (a.map V.int).length (0:Int)).map V.int)))
 have J:upd H0 r (.lst ((qg (a.map V.int).length (0:Int)).map V.int)) r=some (.lst ((qg (a.map V.int).length (0:Int)).map V.int)):=upd_same
 have gH:H r=none:=by
  cases e5:H r with
  |none=>rfl
  |some o=>rw[s0 _ _ e5]at ae;cases ae
 generalize upd H0 r (.lst ((qg (a.map V.int).length (0:Int)).map V.int))=H1 at ag J⊢
 rw[lc]at J
 exists 4,Z1 1,fun T al=>?_
 have sT:=Qb al (.tup [.str "better"])
 have R:SqT K (upd H1 T (.tup [.str "better"])) T [.str "better"]:=Qn upd_same
 generalize upd H1 T (.tup [.str "better"])=H2 at sT R⊢
 have j:=ag.trans sT
 rcases ak with⟨Z,rfl⟩ | ⟨k,⟨Z,rfl⟩ | ⟨Z,rfl⟩ | ⟨Z,rfl⟩⟩
 .refine⟨u,T,_,_,[],rfl,rfl,j.tup Z,R,fun X I=>?_⟩
  rw[I.mpr ⟨rfl,rfl⟩]
  exists 4,iteT ?_
  cases aa with
  |none=>exists 4,rfl,4,iteT (q.1 rfl _ j)
  |some b=>
  exists 4,rfl,4,iteF ?_
  exists 4,t,8,j.tup ht,at1,c,rfl,⟨_,j.tup hc⟩,fun D hD=>?_
  refine Qsc (n:=a.length) (fun τ=>∃v:Option V,τ=[v]) (fun _=>true) (fun i=>V.int (0-a.getD i 0)) hD Om ⟨none,rfl⟩ (fun i W hi m=>⟨_,.int a[i],(j.trans m).tup hc,by rw[jZ,gE hi];rfl⟩) (fun W m=>⟨_,(j.trans m).tup hc,by rw[jQ];exact jJ _⟩) ?_ (fun W m hE=>?_)
  .rintro i τ W x H9 hi ⟨v,rfl⟩ m ⟨rfl,e1⟩ P1 P2 h1 h2
   obtain⟨z,ez,rfl⟩:=Yf (e1 _ ((j.trans m).tup hc))
   have eg:=Qfc ez
   exists 4,7,?_
   have:=h1 rfl [some (.int z)] _ ⟨_,rfl⟩ (Same.refl _)
   rw[eg]at this
   exact this
  rw[Qto a fun x=>0-x]at hE
  exists D,4,.inl ⟨Qg hE,fun l2 S=>⟨_,rfl,_,_,rfl,rfl,Z1 2,fun t2 p=>?_⟩⟩
  have e1:(a.map fun x=>0-x)=a.map fun x=>-x:=jJd fun x _=>Int.zero_sub x
  rw[e1]at p⊢
  exact q.2 _ rfl t2 _ (((j.trans m).trans (Qb S _)).trans (Qb p _)) ⟨l2,Qn upd_same,(Qb p _).tup (Qn upd_same)⟩
 .have d:=j.tup Z
  exists u,T,_,_,[.int k],rfl,rfl,d,R,fun X I=>?_
  have ec:X=false:=by cases X with | false=>rfl | true=>exact Y21 (I.mp rfl).2 (by simp)
  rw[ec]
  exists 4,iteF ?_
  exists 4,u,4,.inr d,rfl,4,ite2 (fun e=>Y21 e (by simp)) (fun _=>?_)
  exists 4,u,8,d,at1,4,r,4,.inl (Qg (sT _ _ J)),4,t,8,j.tup ht,at0,l,4,.inl (j.seq hl),Z1 2,fun B hB=>?_
  have N:=Qb hB (.lst [.int ((((qg a.length (0:Int)).map V.int).length:Nat):Int),.int (L.length:Int)])
  have G:upd H2 B (.lst [.int ((((qg a.length (0:Int)).map V.int).length:Nat):Int),.int (L.length:Int)]) B=some (.lst [.int ((((qg a.length (0:Int)).map V.int).length:Nat):Int),.int (L.length:Int)]):=upd_same
  generalize upd H2 B (.lst [.int ((((qg a.length (0:Int)).map V.int).length:Nat):Int),.int (L.length:Int)])=W at N G⊢
  have m:=j.trans N
  have g:=N.tup d
  exists 4,u,8,g,at0,rfl,.inr ⟨_,rfl,?_⟩
  rw[Y22 Dk]
  exists B,8,Qg G,at1,k,4,fun Y C=>⟨_,rfl,ite2 (fun y=>q.no (fun z=>?_) m) (fun y=>?_)⟩
  .rw[C.mpr ⟨z.1,by rw[lr];exact z.2⟩]at y;exact Y21 y Dc
  have O:Y=true:=by
   cases Y with
   |true=>rfl
   |false=>exact Y21 rfl y
  obtain⟨k0,k1⟩:=C.mp O
  obtain⟨tr,ai,hR,aq⟩:=Qaq (af.imp fun _ _ z=>z.same m) k0 (by rw[<-lr];exact k1)
  exists 4,u,8,g,at0,rfl,4,ite2 (fun _=>?_) (fun e=>Y21 Dk e)
  exists 4,t,8,m.tup ht,at0,4,u,8,g,at1,l,8,m.seq hl,ai,q.yes ⟨k0,by rw[<-lr];exact k1⟩ m hR
 .have d:=j.tup Z
  exists u,T,_,_,[.int k],rfl,rfl,d,R,fun X I=>?_
  have ec:X=false:=by cases X with | false=>rfl | true=>exact Y21 (I.mp rfl).2 (by simp)
  rw[ec]
  exists 4,iteF ?_
  exists 4,u,4,.inr d,rfl,4,ite2 (fun e=>Y21 e (by simp)) (fun _=>?_)
  exists 4,u,8,d,at1,4,r,4,.inl (Qg (sT _ _ J)),4,t,8,j.tup ht,at0,l,4,.inl (j.seq hl),Z1 2,fun B hB=>?_
  have N:=Qb hB (.lst [.int ((((qg a.length (0:Int)).map V.int).length:Nat):Int),.int (L.length:Int)])
  have G:upd H2 B (.lst [.int ((((qg a.length (0:Int)).map V.int).length:Nat):Int),.int (L.length:Int)]) B=some (.lst [.int ((((qg a.length (0:Int)).map V.int).length:Nat):Int),.int (L.length:Int)]):=upd_same
  generalize upd H2 B (.lst [.int ((((qg a.length (0:Int)).map V.int).length:Nat):Int),.int (L.length:Int)])=W at N G⊢
  have m:=j.trans N
  have g:=N.tup d
  exists 4,u,8,g,at0,rfl,.inr ⟨_,rfl,?_⟩
  rw[Y20 Dk]
  exists B,8,Qg G,at0,k,4,fun Y C=>⟨_,rfl,ite2 (fun y=>q.no (fun z=>?_) m) (fun y=>?_)⟩
  .rw[C.mpr ⟨z.1,by rw[jQ,zZ];exact z.2⟩]at y;exact Y21 y Dc
  have O:Y=true:=by
   cases Y with
   |true=>rfl
   |false=>exact Y21 rfl y
  obtain⟨k0,k1⟩:=C.mp O
  exists 4,u,8,g,at0,rfl,4,ite2 (fun e=>Y21 e Dk) (fun _=>?_)
  exists 4,u,8,g,at0,rfl,4,ite2 (fun _=>?_) (fun e=>Y21 Dk e)
  have U:k.toNat<(qg a.length (0:Int)).length:=by rw[jQ]at k1;lia
  have ac:=N _ _ (sT _ _ J)
  exists 4,4,u,8,g,at1,r,_,_,k.toNat,rfl,rfl,ac,by rw[show k=((k.toNat:Nat):Int)by lia];exact Qby (by rw[jQ];exact U),?_
  have h4:upd W r (.lst (((qg a.length (0:Int)).map V.int).set k.toNat (.int 1))) r=some (.lst (((qg a.length (0:Int)).set k.toNat 1).map V.int)):=by rw[upd_same,kXa]
  have s4:Same H (upd W r (.lst (((qg a.length (0:Int)).map V.int).set k.toNat (.int 1)))):=fun b o e=>by rw[Qj (Qi e gH)];exact m _ _ e
  exists 4,r,4,.inl ⟨Qg h4,fun l2 S=>⟨Z1 2,fun t2 p=>?_⟩⟩
  exact q.yes ⟨k0,by rw[zZ]at U;lia⟩ ((s4.trans (Qb S _)).trans (Qb p _)) ⟨l2,Qn upd_same,(Qb p _).tup (Qn upd_same)⟩
 .have d:=j.tup Z
  exists u,T,_,_,[.int k],rfl,rfl,d,R,fun X I=>?_
  have ec:X=false:=by cases X with | false=>rfl | true=>exact Y21 (I.mp rfl).2 (by simp)
  rw[ec]
  exists 4,iteF ?_
  exists 4,u,4,.inr d,rfl,4,ite2 (fun e=>Y21 e (by simp)) (fun _=>?_)
  exists 4,u,8,d,at1,4,r,4,.inl (Qg (sT _ _ J)),4,t,8,j.tup ht,at0,l,4,.inl (j.seq hl),Z1 2,fun B hB=>?_
  have N:=Qb hB (.lst [.int ((((qg a.length (0:Int)).map V.int).length:Nat):Int),.int (L.length:Int)])
  have G:upd H2 B (.lst [.int ((((qg a.length (0:Int)).map V.int).length:Nat):Int),.int (L.length:Int)]) B=some (.lst [.int ((((qg a.length (0:Int)).map V.int).length:Nat):Int),.int (L.length:Int)]):=upd_same
  generalize upd H2 B (.lst [.int ((((qg a.length (0:Int)).map V.int).length:Nat):Int),.int (L.length:Int)])=W at N G⊢
  have m:=j.trans N
  have g:=N.tup d
  exists 4,u,8,g,at0,rfl,.inr ⟨_,rfl,?_⟩
  rw[Y20 Dk]
  exists B,8,Qg G,at0,k,4,fun Y C=>⟨_,rfl,ite2 (fun y=>q.no (fun z=>?_) m) (fun y=>?_)⟩
  .rw[C.mpr ⟨z.1,by rw[jQ,zZ];exact z.2⟩]at y;exact Y21 y Dc
  have O:Y=true:=by
   cases Y with
   |true=>rfl
   |false=>exact Y21 rfl y
  obtain⟨k0,k1⟩:=C.mp O
  exists 4,u,8,g,at0,rfl,4,ite2 (fun e=>Y21 e Dk) (fun _=>?_)
  exists 4,u,8,g,at0,rfl,4,ite2 (fun e=>Y21 e Dk) (fun _=>?_)
  exists 4,u,8,g,at0,rfl,4,ite2 (fun _=>?_) (fun e=>Y21 Dk e)
  have U:k.toNat<(qg a.length (0:Int)).length:=by rw[jQ]at k1;lia
  have ac:=N _ _ (sT _ _ J)
  exists 4,4,4,u,8,g,at1,r,_,_,k.toNat,rfl,rfl,ac,by rw[show k=((k.toNat:Nat):Int)by lia];exact Qby (by rw[jQ];exact U),?_
  have h4:upd W r (.lst (((qg a.length (0:Int)).map V.int).set k.toNat (.int (-1)))) r=some (.lst (((qg a.length (0:Int)).set k.toNat (-1)).map V.int)):=by rw[upd_same,kXa]
  have s4:Same H (upd W r (.lst (((qg a.length (0:Int)).map V.int).set k.toNat (.int (-1))))):=fun b o e=>by rw[Qj (Qi e gH)];exact m _ _ e
  exists 4,r,4,.inl ⟨Qg h4,fun l2 S=>⟨_,rfl,Z1 2,fun t2 p=>?_⟩⟩
  exact q.yes ⟨k0,by rw[zZ]at U;lia⟩ ((s4.trans (Qb S _)).trans (Qb p _)) ⟨l2,Qn upd_same,(Qb p _).tup (Qn upd_same)⟩
noncomputable instance instKeepsT (rs:List Row) (cs:List Int) (t:List Nat) (n:Nat):Decidable (Ks rs cs t n):=Classical.propDecidable _
inductive Qpf(K:Fg)(vs:List V)(H:Hp)(Q:VK)(E:XK):Prop|mk(t l:Addr)(rs:List (List Int×Int))(cs:List Int)(tt:List Nat)(_:vs=[.ref t,.ref l])(_:ProbAt K H t rs cs)(_:(∀r∈rs,r.1.length=cs.length))(_:SqL K H l ((tI tt).map V.int))(_:(∃m,m<=20/\IsTurn m tt))(_:cs.length<=20)(_:rs.length<=20)(_:AnsO K H Q (if tt.length=cs.length/\Ks rs cs tt cs.length then some (Vj tt)else none)):Qpf K vs H Q E
theorem turnK(T:IsTurn n t){k:Nat}(h:k<n):atI ((tI t).map V.int) ((k:Nat):Int)=some (.int ((t.getD k 0:Nat):Int)):=by
 obtain⟨e,_⟩:=getT T h
 exact Zx (by rw[jZ,tI_get e];rfl)
theorem Qhi(T:IsTurn n t)(f:cs.length=n):(t.map fun k=>cs.getD k 0)=cs↔Qjz cs t n:=by
 constructor
 .intro e i a
  obtain⟨b,_⟩:=getT T a
  have c:(t.map fun k=>cs.getD k 0)[i]?=cs[i]?:=by rw[e]
  rw[jZ,b,gE (show i<cs.length by lia)]at c
  have d:cs.getD (t.getD i 0) 0=cs[i]:=Y5 c
  rw[d,jY,gE (show i<cs.length by lia)];rfl
 .intro h
  refine jYf fun i=>?_
  by_cases a:i<n
  .obtain⟨b,_⟩:=getT T a
   rw[jZ,b,gE (show i<cs.length by lia)]
   show some (cs.getD (t.getD i 0) 0)=_
   rw[<-h i a,jY,gE (show i<cs.length by lia)];rfl
  .rw[wX (by rw[jQ,T.length];lia),wX Om]
theorem natsV{α:Type}{l:List α}(a:l.length=n)(d:α)(g:α->V):((List.range n).filter fun _=>true).map (fun i=>g (l.getD i d))=l.map g:=by
 rw[Qfh]
 refine jYf fun k=>?_
 rw[jZ,jZ]
 by_cases h:k<n
 .rw[kXc h,gE (show k<l.length by lia)]
  show some (g (l.getD k d))=some (g l[k])
  rw[jY,gE (show k<l.length by lia)];rfl
 .rw[wX (by rw[jXb];lia),wX Om];rfl
theorem Qcv{xs ys qx qy:List Row}(b:qx.Perm xs)(a:qy.Perm ys)(d:qx.Pairwise (fun x y=>Ja y x=false))(c:qy.Pairwise (fun x y=>Ja y x=false)):qx=qy↔xs.Perm ys :=
 ⟨fun e=>b.symm.trans (by rw[e];exact a),fun e=>Qap (b.trans (e.trans a.symm)) d c⟩
abbrev sLik:Stmt:=top 56
theorem scLik:FnScope ["_law_problem_here","_law_turn_here","_law_many","_law_rows","_law_numbers","_law_least","_law_moved_here","_law_k","_law_weight"] ["_law_problem_here","_law_turn_here"] (Qf sLik):=Sc
theorem okLik(F:Fn K mg "_law_like" sLik)(M:Mg mg):qC 1 "_law_like" ["_law_problem_here","_law_turn_here"] (Qpf K):=by
 refine Xf F scLik (a:=fun f a1 A aN s H vs Q E hr h=>?_)
 obtain⟨t,l,rs,g,m,rfl,⟨lP,c,vP,ht,al,ai,hc⟩,aG,C,⟨m0,a2,T0⟩,hn,hm,q⟩:=h
 have U:=Z6 6 hr.un
 refine⟨_,(Qd (Z4 2 scLik.nd (qL (Qo Qm (pv 0) Qe)))
  (Qd (Xg (PW.pt (Yx (Xr (Xl (Qk Xn rfl M.isinstance Qx (Qa (pv 1) (Qa (Jh M.list_ Yu) Qc))))) (Yr (Qr (Qgj (n:=6) U) (Qk (Qay (K:=K) rfl) rfl M.sorted Kd (Qa (pv 1) Qc)) (Qz (Wo rfl) rfl M.list_ Yu (Qa (Qjh M.range_ (Qa (pv 2) Qc)) Qc)) (Qs _))))) (Qh (Qp Xh)) Qq)
  (Qd (Z4 3 scLik.nd (Xo Qc))
  (Qd (Yo PassesOwn.never rfl (Xq (Qo Qm (pv 0) Qe)) (Yb (K:=K) (i:=4) (j:=5) rfl rfl scLik.nd rfl rfl rfl rfl) (Qd (Z4 6 scLik.nd (Qu Vb (Xo (Qa Qe Qc)) (pv 2)))
  (Qd (Yo PassesOwn.never rfl (Yt rfl M.range_ (Qa (pv 2) Qc)) (Z3 7 scLik.nd) (Qh (Zp (Qo Qm (pv 4) (pv 7)) (Kx (pv 6) (Qo ix_list (pv 1) (pv 7)) set_list))))
  (Qh (Yn (Va Y1 Y2 Y3 Xx (pv 3) (Qa (Qy (Qa (Qz Xb rfl M.tuple_ Xp (Qa (pv 6) Qc)) (Qa (pv 5) Qc))) Qc)))))))
  (Qd (Xg (PW.pt (Yx (Qr (Qgj (n:=6) U) (Qk (Js (K:=K) rfl U) rfl M.sorted Kd (Qa (pv 3) Qc)) (Qk (Js (K:=K) rfl U) rfl M.sorted Kd (Qa (Qo Qm (pv 0) Qe) Qc)) (Qs _)) (Yr (Qr (Qgj (n:=6) U) (Zn ["_law_k","_law_problem_here"] [none,some 0] rfl (Xq (pv 1)) (fun _ _ _=>(Z3 0 (show(["_law_k","_law_problem_here"]:List Str).Nodup by decide +kernel))) (fun _ _ _=>Yc) (fun _ _ _=>(Qo (Zz (K:=K) rfl) (Qo (Zz (K:=K) rfl) (pv 1) Qe) (pv 0)))) (Qz Zk rfl M.list_ Yu (Qa (Qo Qm (pv 0) Qe) Qc)) (Qs _))))) (Qh (Qp Xh)) Qq)
  (Qd (Z4 4 scLik.nd (Qu Vb (Xo (Qa Qe Qc)) (pv 2)))
  (Qd (Z4 8 scLik.nd Qe)
  (Qd (Yo PassesOwn.never rfl (Qgt rfl M.range_ (Qa (Qu Ys (pv 2) Qe) (Qa (Wi Jr Qe) (Qa (Wi Jr Qe) Qc)))) (Z3 7 scLik.nd) (Qd (Zp (Qu Yp (Qo ix_list (pv 4) (pv 7)) (pv 8)) (Kx (pv 4) (pv 7) set_list))
  (Qd (Zp (Qu Ys (Qo ix_list (pv 4) (Qo ix_list (pv 1) (pv 7))) (pv 8)) (Kx (pv 4) (Qo ix_list (pv 1) (pv 7)) set_list))
  (Qh (Z4 8 scLik.nd (Qu Yp (pv 8) (pv 8)))))))
  (Qh (Qp (Qy (Qa (Qz Xb rfl M.tuple_ Xp (Qa (pv 4) Qc)) (Qa Qe Qc))))))))))))),?_⟩
 exists"z"
 have lr:=Paired.length ai
 have aI:(tI m).length=m0:=by rw[Vd];exact T0.length
 have lc:(g.map V.int).length=g.length:=jQ ..
 exists 4,t,8,ht,at1,c,4,.inr hc,?_
 exists 4,_,"list",true,rfl,.list,.inr ⟨⟨_,C⟩,rfl⟩,4,iteF ?_
 exists 4,l,tI m,rfl,C,Om,fun D1 qs aM hq aQ=>?_
 have s1:=Qb aM (.lst (qs.map V.int))
 have h1:upd H D1 (.lst (qs.map V.int)) D1=some (.lst (qs.map V.int)):=upd_same
 generalize upd H D1 (.lst (qs.map V.int))=H1 at s1 h1⊢
 exists 4,4,fun r aJ=>⟨r,_,rfl,upd_same,Om,Om,fun l2 ak=>?_⟩
 have s2:=(Qb aJ (.rng 0 (((g.map V.int).length:Nat):Int))).trans (Qb ak (.lst ((List.range (Int.toNat (((g.map V.int).length:Nat):Int))).map fun i:Nat=>V.int (i:Int))))
 have h2:upd (upd H1 r (.rng 0 (((g.map V.int).length:Nat):Int))) l2 (.lst ((List.range (Int.toNat (((g.map V.int).length:Nat):Int))).map fun i:Nat=>V.int (i:Int))) l2=some (.lst (((List.range (Int.toNat (((g.map V.int).length:Nat):Int))).map fun i:Nat=>(i:Int)).map V.int)):=by rw[upd_same,jKd];rfl
 generalize upd (upd H1 r (.rng 0 (((g.map V.int).length:Nat):Int))) l2 (.lst ((List.range (Int.toNat (((g.map V.int).length:Nat):Int))).map fun i:Nat=>V.int (i:Int)))=H2 at s2 h2⊢
 exists D1,l2,7,lstD (Qg (s2 _ _ h1)),lstD (Qg h2),Qji _ _,fun cc u=>⟨_,rfl,ite2 (fun y=>?_) (fun y=>?_)⟩
 .refine q.1 (Y20 fun z=>?_) _ (s1.trans s2)
  have em:m0=g.length:=T0.length.symm.trans z.1
  subst em
  have e1:qs=Wx g.length:=(Qcm (fun k hk=>T0.mem.mp hk) hq aQ).mpr ⟨T0.nodup,T0.length⟩
  have:cc=true:=u.mpr (by rw[e1,lc];rfl)
  rw[this]at y;exact Y21 y Dc
 have em:m0=g.length:=by
  have aR:cc=true:=by
   cases cc with
   |true=>rfl
   |false=>exact Y21 rfl y
  have z:=u.mp aR
  have z1:(qs.map L2.D.int).length=_:=congrArg (fun d=>match d with | L2.D.lst xs=>xs.length | _=>0) z
  have z2:=hq.length_eq
  simp at z1
  lia
 subst em
 have T:=T0
 have q:AnsO K H Q (if Ks rs g m g.length then some (Vj m)else none):=by
  by_cases k:Ks rs g m g.length
  .rw[Y22 ⟨T.length,k⟩]at q;rw[Y22 k];exact q
  .rw[Y20 fun z=>k z.2]at q;rw[Y20 k];exact q
 have ar:=s1.trans s2
 clear h1 h2
 exists Z1 0,fun R hR=>?_
 have s3:=Qb hR (.lst [])
 have h3:upd H2 R (.lst []) R=some (.lst []):=upd_same
 generalize upd H2 R (.lst [])=H3 at s3 h3⊢
 have ag:=ar.trans s3
 have RH:H R=none:=by
  cases e5:H R with
  |none=>rfl
  |some o=>rw[ar _ _ e5]at hR;cases hR
 let aL:Nat->St->Hp->Prop:=fun i O S=>∃(ws:List V) (v4 v5 v6 J:Option V),O=[some (.ref t),some (.ref l),some (.int (((g.map V.int).length:Nat):Int)),some (.ref R),v4,v5,v6,J,none]/\S R=some (.lst ws)/\RowsAre K S ws ((rs.take i).map (ledR m g.length))/\ws.length=i/\Same H S
 exists 4,t,8,ag.tup ht,at0,lP,rfl,⟨_,ag.seq al⟩,Zd (K:=K) (a:=lP) (xs:=vP) aL ⟨[],none,none,none,none,rfl,h3,.nil,rfl,ag⟩ (fun i O S _ h=>?_) ?_ ?_
 .obtain⟨_,_,_,_,_,rfl,_,_,_,s4⟩:=h
  exact s4.seq al
 .rintro i x O S e1 ⟨ws,v4,v5,v6,J,rfl,aa,G,aC,s4⟩
  have hi:i<vP.length:=(jW.mp e1).1
  obtain⟨p,aw,tr,rfl,⟨pr,aE,aT⟩⟩:=L2.Xw ai e1
  have aZ:=aG p (kK aw)
  exists tr,4,s4.tup aE,rfl,_,4,7,?_
  exists Z1 1,fun pA aO=>?_
  have aA:=Qb aO (.lst [.int 0])
  have bA:upd S pA (.lst [.int 0]) pA=some (.lst [.int 0]):=upd_same
  generalize upd S pA (.lst [.int 0])=YA at aA bA⊢
  exists 4,pA,(((g.map V.int).length:Nat):Int),4,rfl,bA,Om,Om,by show 1*((((g.map V.int).length:Nat):Int)).toNat<=sizeLine;lia,fun N am=>?_
  rw[Qhh]
  have dA:=aA.trans (Qb am (.lst ((qg (g.map V.int).length (0:Int)).map V.int)))
  have eA:upd YA N (.lst ((qg (g.map V.int).length (0:Int)).map V.int)) N=some (.lst ((qg (g.map V.int).length (0:Int)).map V.int)):=upd_same
  have fA:S N=none:=by
   cases e5:S N with
   |none=>rfl
   |some o=>rw[aA _ _ e5]at am;cases am
  generalize upd YA N (.lst ((qg (g.map V.int).length (0:Int)).map V.int))=ZA at dA eA⊢
  have lA:qg (g.map V.int).length (0:Int)=put p.1 m 0:=by rw[lc,<-T.length];rfl
  rw[lA]at eA
  have sA:=s4.trans dA
  have aD:H N=none:=by
   cases e5:H N with
   |none=>rfl
   |some o=>rw[s4 _ _ e5]at fA;cases fA
  have gR:N≠R:=fun e=>by rw[e,aa]at fA;cases fA
  exists 4,4,Om,Om,Kb (lo:=0) (n:=Int.toNat (((g.map V.int).length:Nat):Int)) (fun j O X=>∃(J:Option V),O=[some (.ref t),some (.ref l),some (.int (((g.map V.int).length:Nat):Int)),some (.ref R),some (.ref pr),some (.int p.2),some (.ref N),J,none]/\X N=some (.lst ((put p.1 m j).map V.int))/\X R=some (.lst ws)/\RowsAre K X ws ((rs.take i).map (ledR m g.length))/\Same H X) ⟨J,rfl,eA,dA _ _ aa,G.imp fun _ _ z=>z.same dA,sA⟩ ?_ ?_
  .rintro j O X hj ⟨J,rfl,W,ad,Z,s5⟩
   have az:j<g.length:=by rw[lc]at hj;lia
   have ej:(0:Int)+(j:Int)=((j:Nat):Int):=Om
   rw[ej]
   have ey:=atN (ns:=p.1) (i:=j) Om
   have em:=turnK T az
   obtain⟨ek,an⟩:=getT T az
   have ex:p.1[j]?=some (p.1.getD j 0):=by rw[jY,gE (show j<p.1.length by lia)];rfl
   exists 4,4,pr,8,s5.tup aT,ey,4,4,4,l,8,s5.seq C,em,N,8,W,Qby (by rw[jQ,Qaj,T.length];exact an),?_
   exists 4,by rw[upd_same,Qjj ex ek,kXa],by rw[Qj gR.symm];exact ad,Z.imp fun _ _ z=>z.upd W,fun b o e=>?_
   rw[Qj (Qi e aD)];exact s5 _ _ e
  .rintro O X ⟨J,rfl,W,ad,Z,s5⟩
   rw[show Int.toNat (((g.map V.int).length:Nat):Int)=g.length by rw[lc];rfl]at W
   exists 4,.inl ⟨rfl,_,Qg ad⟩,4,N,4,.inl ⟨Qg W,fun l3 aU=>⟨_,rfl,Z1 2,fun t3 au=>?_⟩⟩
   have L:=(Qb aU (.tup ((put p.1 m g.length).map V.int))).trans (Qb au (.tup [.ref l3,.int p.2]))
   have h6:RowAt K (upd (upd X l3 (.tup ((put p.1 m g.length).map V.int))) t3 (.tup [.ref l3,.int p.2])) t3 (ledR m g.length p):=⟨l3,Qn upd_same,(Qb au _).tup (Qn upd_same)⟩
   generalize upd (upd X l3 (.tup ((put p.1 m g.length).map V.int))) t3 (.tup [.ref l3,.int p.2])=H6 at L h6⊢
   have ae:=L _ _ ad
   exists R,7,ae,Om,ws++[.ref t3],_,_,_,4,upd_same,?_,by rw[jV,aC];rfl,fun b o e=>?_
   .rw[Zh aw,kY]
    exact RowsAre.snoc (Z.imp fun _ _ z=>(z.same L).upd ae) (RowAt.upd ae h6)
   .rw[Qj (Qi e RH)];exact L _ _ (s5 _ _ e)
 rintro O S ⟨ws,v4,v5,v6,J,rfl,aa,G,aC,s4⟩
 rw[zX Om]at G
 exists 4,R,ws,4,Qg aa,G,Om,fun D4 w4 q4 aV aY a3 ay ax=>?_
 have a5:=Qb aV (.lst w4)
 have h5:upd S D4 (.lst w4) D4=some (.lst w4):=upd_same
 generalize upd S D4 (.lst w4)=X at a5 h5⊢
 have s5:=s4.trans a5
 exists 4,t,8,s5.tup ht,at0,lP,vP,rs,rfl,s5.seq al,ai.imp fun _ _ z=>z.same s5,Om,fun D6 w6 q6 aS aW a4 av ap=>?_
 have a6:=Qb aS (.lst w6)
 have h6:upd X D6 (.lst w6) D6=some (.lst w6):=upd_same
 generalize upd X D6 (.lst w6)=H6 at a6 h6⊢
 have L:=s5.trans a6
 exists D4,D6,7,RowsAre.hasD (Qg (a6 _ _ h5)) (aY.imp fun _ _ z=>z.same (a5.trans a6)),RowsAre.hasD (Qg h6) (aW.imp fun _ _ z=>z.same a6),Qgm _ _,fun cc u=>⟨_,rfl,ite2 (fun y=>iteT (q.no (fun z=>?_) L)) (fun y=>?_)⟩
 .rw[u.mpr (by rw[(Qcv ay av ax ap).mpr z.2])]at y;exact Y21 y Dc
 have aX:(rs.map (ledR m g.length)).Perm rs:=(Qcv ay av ax ap).mp (rowsD_inj.mp (u.mp (by
  cases cc with
  |true=>rfl
  |false=>exact Y21 rfl y)))
 exists 4,l,rfl,⟨_,L.seq C⟩,fun D hD=>?_
 refine Qsc (n:=g.length) (fun τ=>∃v:Option V,τ=[v,some (.ref t)]) (fun _=>true) (fun i=>V.int (g.getD (m.getD i 0) 0)) hD Om ⟨none,rfl⟩ (fun i H7 hi s7=>⟨_,.int (tI m)[i],(L.trans s7).seq C,by rw[jZ,gE (show i<(tI m).length by lia)];rfl⟩) (fun H7 s7=>⟨_,(L.trans s7).seq C,by rw[jQ,aI];exact jJ _⟩) ?_ (fun H7 s7 hE=>?_)
 .rintro i τ H7 x H9 hi ⟨v,rfl⟩ s7 ⟨rfl,e1⟩ P1 P2 h1 h2
  obtain⟨z,ez,rfl⟩:=Yf (e1 _ ((L.trans s7).seq C))
  obtain⟨k,ek,rfl⟩:=Quo ez
  have hk:=T.lt ek
  have:=h1 rfl [some (.int ((k:Nat):Int)),some (.ref t)] _ ⟨_,rfl⟩ (Same.refl _)
  rw[Qkb ek]at this
  exists 4,t,8,(L.trans s7).tup ht,at1,4,c,8,(L.trans s7).tup hc,atN Om,this
 rw[natsV (l:=m) T.length 0 fun k=>V.int (g.getD k 0)]at hE
 rw[show(m.map fun k=>V.int (g.getD k 0))=(m.map fun k=>g.getD k 0).map V.int by rw[jKd];rfl]at hE
 have aj:=L.trans s7
 exists 4,t,8,aj.tup ht,at1,c,4,.inr (aj.tup hc),fun l8 aH=>?_
 have a8:=Qb aH (.lst (g.map V.int))
 have h8:upd H7 l8 (.lst (g.map V.int)) l8=some (.lst (g.map V.int)):=upd_same
 generalize upd H7 l8 (.lst (g.map V.int))=H8 at a8 h8⊢
 have s8:=aj.trans a8
 exists D,l8,7,lstD (Qg (a8 _ _ hE)),lstD (Qg h8),Qji _ _,fun cc u=>⟨_,rfl,ite2 (fun y=>q.no (fun z=>?_) s8) (fun y=>?_)⟩
 .rw[u.mpr (by rw[(Qhi T rfl).mpr z.1])]at y;exact Y21 y Dc
 have aF:Ks rs g m g.length:=⟨(Qhi T rfl).mp (by
  have h1:=u.mp (by
   cases cc with
   |true=>rfl
   |false=>exact Y21 rfl y)
  injection h1 with h1
  exact(List.map_inj_right (fun _ _ h=>by injection h)).mp h1),aX⟩
 exists Z1 1,fun pB aP=>?_
 have aB:=Qb aP (.lst [.int 0])
 have bB:upd H8 pB (.lst [.int 0]) pB=some (.lst [.int 0]):=upd_same
 generalize upd H8 pB (.lst [.int 0])=YB at aB bB⊢
 exists 4,pB,(((g.map V.int).length:Nat):Int),4,rfl,bB,Om,Om,by show 1*((((g.map V.int).length:Nat):Int)).toNat<=sizeLine;lia,fun B af=>?_
 rw[Qhh]
 have dB:=aB.trans (Qb af (.lst ((qg (g.map V.int).length (0:Int)).map V.int)))
 have eB:upd YB B (.lst ((qg (g.map V.int).length (0:Int)).map V.int)) B=some (.lst ((qg (g.map V.int).length (0:Int)).map V.int)):=upd_same
 have fB:H8 B=none:=by
  cases e5:H8 B with
  |none=>rfl
  |some o=>rw[aB _ _ e5]at af;cases af
 generalize upd YB B (.lst ((qg (g.map V.int).length (0:Int)).map V.int))=ZB at dB eB⊢
 have lB:qg (g.map V.int).length (0:Int)=(Jt m 0).1:=by rw[lc,<-T.length];rfl
 rw[lB]at eB
 have sB:=s8.trans dB
 have ao:H B=none:=by
  cases e5:H B with
  |none=>rfl
  |some o=>rw[s8 _ _ e5]at fB;cases fB
 exists 4,7,4,4,?_
 rw[lc]
 exists _,_,4,⟨Dc,Dc,Qgy Om⟩,Qdm (lo:=(g.length:Int)-1) (c:=-1) (n:=(Builtin.Range.rangeSize ((g.length:Int)-1) (-1) (-1)).toNat) (fun i O H9=>∃(J:Option V),O=[some (.ref t),some (.ref l),some (.int (g.length:Int)),some (.ref R),some (.ref B),v5,v6,J,some (.int (Jt m i).2)]/\H9 B=some (.lst ((Jt m i).1.map V.int))/\Same H H9) ⟨J,rfl,eB,sB⟩ ?_ ?_
 .rintro i O H9 hi ⟨J,rfl,I,s9⟩
  rw[Ve]at hi
  have ec:(g.length:Int)-1+((i:Nat):Int)*(-1)=((g.length-1-i:Nat):Int):=Om
  rw[ec]
  have u:g.length-1-i<g.length:=Om
  have ah:=Qao m i
  rw[T.length]at ah
  have ac:=Wf m i
  rw[T.length]at ac
  generalize Jt m i=LT at I ah ac⊢
  rw[ac]
  clear ac
  generalize g.length-1-i=k at u⊢
  have ey:=atN (ns:=LT.1) (i:=k) Om
  have em:=turnK T u
  obtain⟨_,an⟩:=getT T u
  exists 4,4,B,8,Qg I,ey,4,7,4,4,B,_,_,k,rfl,rfl,I,Qby (by rw[jQ];lia),?_
  have Y:upd H9 B (.lst ((LT.1.map V.int).set k (.int (LT.1.getD k 0+LT.2)))) B=some (.lst ((LT.1.set k (LT.1.getD k 0+LT.2)).map V.int)):=by rw[upd_same,kXa]
  have ab:Same H (upd H9 B (.lst ((LT.1.map V.int).set k (.int (LT.1.getD k 0+LT.2))))):=fun b o e=>by rw[Qj (Qi e ao)];exact s9 _ _ e
  generalize upd H9 B (.lst ((LT.1.map V.int).set k (.int (LT.1.getD k 0+LT.2))))=H10 at Y ab⊢
  have a0:(LT.1.set k (LT.1.getD k 0+LT.2)).length=g.length:=by rw[jQb];exact ah
  have aK:=atN (ns:=LT.1.set k (LT.1.getD k 0+LT.2)) (i:=m.getD k 0) Om
  exists 4,4,4,l,8,ab.seq C,em,B,8,Qg Y,aK,4,7,4,4,4,l,8,ab.seq C,em,B,_,_,m.getD k 0,rfl,rfl,Y,Qby (by rw[jQ];lia),?_
  exists 4,4,7,some (.int ((k:Nat):Int)),?_,?_,fun b o e=>?_
  .have e2:LT.2+LT.2=LT.2*2:=Om
   exact congrArg (fun z=>[some (V.ref t),some (V.ref l),some (V.int (g.length:Int)),some (V.ref R),some (V.ref B),v5,v6,some (V.int ((k:Nat):Int)),some (V.int z)]) e2
  .rw[upd_same,<-kXa];rfl
  .rw[Qj (Qi e ao)];exact ab _ _ e
 .rintro O H9 ⟨J,rfl,I,s9⟩
  rw[Ve]at I
  exists 4,B,4,.inl ⟨Qg I,fun l2 ak=>⟨Z1 2,fun t2 aq=>?_⟩⟩
  refine q.yes aF ((s9.trans (Qb ak _)).trans (Qb aq _)) ⟨l2,Qn upd_same,(Qb aq _).tup (Qn ?_)⟩
  rw[upd_same]
  show _=some (HO.tup ((Jt m m.length).1.map V.int))
  rw[T.length]
inductive DL where
 |giv (k:Int)
 |low (k:Int)
 |high (k:Int)
 |bet
 |no
 |sm (ps:List (Int×Int))
 |shr (o b:Int)
 |sht (o:Int) (hs:List (Int×Int))
 |eit (o p c:Int)
 |lik (t:List Nat)
def DLAt(K:Fg)(H:Hp)(u:Addr):DL->Prop
 |.giv k=>SqT K H u [.str "given",.int k]
 |.low k=>SqT K H u [.str "low",.int k]
 |.high k=>SqT K H u [.str "high",.int k]
 |.bet=>SqT K H u [.str "better"]
 |.no=>SqT K H u [.str "no"]
 |.sm ps=>∃l,SqT K H u [.str "sum",.ref l]/\HoldsAt K H l ps
 |.shr o b=>SqT K H u [.str "share",.int o,.int b]
 |.sht o hs=>∃l,SqT K H u [.str "shut",.int o,.ref l]/\HoldsAt K H l hs
 |.eit o p c=>SqT K H u [.str "either",.int o,.int p,.int c]
 |.lik t=>∃l,SqT K H u [.str "like",.ref l]/\SqL K H l ((tI t).map V.int)
def DL.names:DL->List Int
 |.sm ps=>ps.map (·.1)
 |.shr o _=>[o]
 |.sht o _=>[o]
 |.eit o p _=>[o,p]
 |_=>[]
def NB(k:Int):Prop:=0<=k/\k<1000000
def DLok(n:Nat):DL->Prop
 |.giv k=>NB k
 |.low k=>NB k
 |.high k=>NB k
 |.bet=>True
 |.no=>True
 |.sm ps=>ps.length<=10/\∀p∈ps,NB p.1/\0<=p.2/\p.2<=3
 |.shr o b=>NB o/\1<=b/\b<=3
 |.sht o hs=>NB o/\Good n hs
 |.eit o p c=>NB o/\NB p/\NB c
 |.lik t=>∃m,m<=20/\IsTurn m t
theorem DLAt.same{u:Addr}{ln:DL}(h:DLAt K H u ln)(s:Same H H'):DLAt K H' u ln:=by
 cases ln with
 |sm ps=>obtain⟨l,d,a⟩:=h;exists l,s.tup d,a.same s
 |sht o hs=>obtain⟨l,d,a⟩:=h;exists l,s.tup d,a.same s
 |lik ts=>obtain⟨l,d,a⟩:=h;exists l,s.tup d,s.seq a
 |giv k=>exact s.tup h
 |low k=>exact s.tup h
 |high k=>exact s.tup h
 |bet=>exact s.tup h
 |no=>exact s.tup h
 |shr o b=>exact s.tup h
 |eit o p c=>exact s.tup h
def Cin(n:Nat)(c:Int):Prop:=0<=c/\c<((n:Nat):Int)
noncomputable instance (n:Nat) (c:Int):Decidable (Cin n c):=inferInstanceAs (Decidable (_/\_))
def shrR(r:Rw)(b:Int):Option Rw:=if divides r b=true then some (Vp r b)else none
def shtR(n:Nat)(r:Rw)(hs:List (Int×Int)):Option Rw:=if Qaa r hs<r.2 then some (Jw n hs)else none
def eitR(r1 r2:Rw)(c:Nat):Option Rw:=if Xi r1.1 c=Xi r2.1 c then some (Ke r1 r2 c)else none
def rowL(rs:List Rw)(cs:List Int)(best:Option Int)(hd:List Rw):DL->Option Rw
 |.giv k=>if InH rs k then some (rowK rs k.toNat)else none
 |.low k=>if 0<=k/\k<(cs.length:Int)then some (Yk cs.length k.toNat 1 0)else none
 |.high k=>if 0<=k/\k<(cs.length:Int)then some (Yk cs.length k.toNat (-1) (-1))else none
 |.bet=>best.map (Vi cs)
 |.no=>none
 |.sm ps=>if Qcu hd ps then some (Yq cs.length (pI hd ps))else none
 |.shr o b=>if InH hd o then shrR (rowK hd o.toNat) b else none
 |.sht o hs=>if InH hd o then shtR cs.length (rowK hd o.toNat) hs else none
 |.eit o p c=>if InH hd o/\InH hd p/\Cin cs.length c then eitR (rowK hd o.toNat) (rowK hd p.toNat) c.toNat else none
 |.lik t=>if t.length=cs.length/\Ks rs cs t cs.length then some (Vj t)else none
def dlD:DL->Dt
 |.giv k=>.tup [.str "given",.int k]
 |.low k=>.tup [.str "low",.int k]
 |.high k=>.tup [.str "high",.int k]
 |.bet=>.tup [.str "better"]
 |.no=>.tup [.str "no"]
 |.sm ps=>.tup [.str "sum",.lst (ps.map Jg)]
 |.shr o b=>.tup [.str "share",.int o,.int b]
 |.sht o hs=>.tup [.str "shut",.int o,.lst (hs.map Jg)]
 |.eit o p c=>.tup [.str "either",.int o,.int p,.int c]
 |.lik t=>.tup [.str "like",.lst ((tI t).map .int)]
inductive Qfk(K:Fg)(vs:List V)(H:Hp)(Q:VK)(E:XK):Prop|mk(t h u:Addr)(rs hd:List (List Int×Int))(cs:List Int)(best:Option Int)(ws:List V)(ln:DL)(_:vs=[.ref t,Xm best,.ref h,.ref u])(_:ProbAt K H t rs cs)(_:(∀r∈rs,r.1.length=cs.length))(_:SqL K H h ws)(_:RowsAre K H ws hd)(_:hd.length<=2000)(_:(∀r∈hd,r.1.length=cs.length))(_:DLAt K H u ln)(_:DLok cs.length ln)(_:cs.length<=20)(_:rs.length<=20)(_:AnsO K H Q (rowL rs cs best hd ln)):Qfk K vs H Q E
abbrev Qhj:Stmt:=top 57
theorem Qve:FnScope ["_law_problem_here","_law_best","_law_heard","_law_line"] ["_law_problem_here","_law_best","_law_heard","_law_line"] (Qf Qhj):=Sc
theorem Qvf(F:Fn K mg "_law_row" Qhj)(M:Mg mg)(D:qC 2 "_law_simple" ["_law_problem_here","_law_best","_law_line"] (Qpe K))(v:qC 2 "_law_summed" ["_law_problem_here","_law_heard","_law_parts"] (Qpd K))(V:qC 1 "_law_like" ["_law_problem_here","_law_turn_here"] (Qpf K))(x:qC 1 "_law_is" ["_law_thing","_law_most_here"] (Qdt))(C:qC 1 "_law_shared" ["_law_row_here","_law_by"] (spShr K))(W:qC 2 "_law_shut" ["_law_row_here","_law_holds_here"] (spSht K))(B:qC 1 "_law_either" ["_law_one","_law_other_here","_law_at"] (spEit K)):qC 3 "_law_row" ["_law_problem_here","_law_best","_law_heard","_law_line"] (Qfk K):=by
 refine Xf F Qve (fun _ _ _ _ _ _=>Qbb (fun _ _ _ _=>rfl)) (fun vs H Q E h=>?_) (fun f aj A ah s H vs Q E Y h=>?_)
 .obtain⟨t,h,u,Z,r,I,i,ws,ln,rfl,_⟩:=h
  rfl
 obtain⟨t,h,u,Z,r,I,i,ws,ln,rfl,hP,R,hw,J,af,U,j,L,hn,hm,q⟩:=h
 have g:=Z6 1 Y.un
 refine⟨_,(Qd (Xg (PW.pt (Yx (Xr (Xl (Qk Xn rfl M.isinstance Qx (Qa (pv 3) (Qa (Jh M.tuple_ Xp) Qc))))) (Yr (Qr Yh (qL (pv 3)) Qe (Qs _))))) (Qh (Qp Xh)) Qq)
  (Qd (Xg (Qr Wl (Qo Qm (pv 3) Qe) (Qy (Qa Xj (Qa Xj (Qa Xj (Qa Xj Qc))))) rfl) (Qh (Qp (Xc D (Y.mono Dc) (Qa (pv 0) (Qa (pv 1) (Qa (pv 3) Qc)))))) Qq)
  (Qd (Xg (PW.pt (Ko (Qr Yh (Qo Qm (pv 3) Qe) Xj (Qs _)) (Ju (Qr Yh (qL (pv 3)) Qe (Qs _))))) (Qh (Qp (Xc v (Y.mono Dc) (Qa (pv 0) (Qa (pv 2) (Qa (Qo Qm (pv 3) Qe) Qc)))))) Qq)
  (Qd (Xg (PW.pt (Ko (Qr Yh (Qo Qm (pv 3) Qe) Xj (Qs _)) (Ju (Qr Yh (qL (pv 3)) Qe (Qs _))))) (Qh (Qp (Xc V (Y.mono Dc) (Qa (pv 0) (Qa (Qo Qm (pv 3) Qe) Qc))))) Qq)
  (Qd (Xg (PW.pt (Yx (Qr Qft (qL (pv 3)) Qe (Qs _)) (Yr (Xr (Xl (Xc x (Y.mono Dc) (Qa (Qo Qm (pv 3) Qe) (Qa (qL (pv 2)) Qc)))))))) (Qh (Qp Xh)) Qq)
  (Qd (Xg (PW.pt (Ko (Qr Yh (Qo Qm (pv 3) Qe) Xj (Qs _)) (Ju (Qr Yh (qL (pv 3)) Qe (Qs _))))) (Qh (Qp (Xc C (Y.mono Dc) (Qa (Qo ix_list (pv 2) (Qo Qm (pv 3) Qe)) (Qa (Qo Qm (pv 3) Qe) Qc))))) Qq)
  (Qd (Xg (PW.pt (Ko (Qr Yh (Qo Qm (pv 3) Qe) Xj (Qs _)) (Ju (Qr Yh (qL (pv 3)) Qe (Qs _))))) (Qh (Qp (Xc W (Y.mono Dc) (Qa (Qo ix_list (pv 2) (Qo Qm (pv 3) Qe)) (Qa (Qo Qm (pv 3) Qe) Qc))))) Qq)
  (Qd (Xg (PW.pt (Ko (Qr Yh (Qo Qm (pv 3) Qe) Xj (Qs _)) (Ko (Qr Yh (qL (pv 3)) Qe (Qs _)) (Ko (Xl (Xc x (Y.mono Dc) (Qa (Qo Qm (pv 3) Qe) (Qa (qL (pv 2)) Qc)))) (Ju (Xl (Xc x (Y.mono Dc) (Qa (Qo Qm (pv 3) Qe) (Qa (qL (Qo Qm (pv 0) Qe)) Qc))))))))) (Qh (Qp (Xc B (Y.mono Dc) (Qa (Qo ix_list (pv 2) (Qo Qm (pv 3) Qe)) (Qa (Qo ix_list (pv 2) (Qo Qm (pv 3) Qe)) (Qa (Qo Qm (pv 3) Qe) Qc)))))) Qq)
  (Qh (Qp Xh)))))))))),?_⟩
 refine Qre ?_;intros
 obtain⟨lP,cP,vP,p1,p2,p3,p4⟩:=id hP
 have lw:=Paired.length J
 cases ln with
 |giv k=>
  have g:SqT K H u _:=j
  exists 4,_,"tuple",true,rfl,.tuple,.inl ⟨⟨_,g⟩,rfl⟩,4,iteF ⟨_,rfl,u,_,rfl,.inr g,rfl,_,rfl,iteF ?_⟩
  exists 4,u,8,g,at0,Z1 4,fun T m=>?_
  have d:=Qb m (.tup [.str "given",.str "low",.str "high",.str "better"])
  exists T,4,.inr (Qn upd_same),rfl,rfl,4,ite2 (fun _=>?_) (fun e=>Y21 Dk e)
  exists 4,4,4,t,u,Z,I,i,4,ProbAt.same d hP,R,.inr ⟨k,.inl ⟨d.tup g,rfl⟩⟩,Om,Om,q.later d
 |low k=>
  have g:SqT K H u _:=j
  exists 4,_,"tuple",true,rfl,.tuple,.inl ⟨⟨_,g⟩,rfl⟩,4,iteF ⟨_,rfl,u,_,rfl,.inr g,rfl,_,rfl,iteF ?_⟩
  exists 4,u,8,g,at0,Z1 4,fun T m=>?_
  have d:=Qb m (.tup [.str "given",.str "low",.str "high",.str "better"])
  exists T,4,.inr (Qn upd_same),rfl,rfl,4,ite2 (fun _=>?_) (fun e=>Y21 Dk e)
  exists 4,4,4,t,u,Z,I,i,4,ProbAt.same d hP,R,.inr ⟨k,.inr (.inl ⟨d.tup g,rfl⟩)⟩,Om,Om,q.later d
 |high k=>
  have g:SqT K H u _:=j
  exists 4,_,"tuple",true,rfl,.tuple,.inl ⟨⟨_,g⟩,rfl⟩,4,iteF ⟨_,rfl,u,_,rfl,.inr g,rfl,_,rfl,iteF ?_⟩
  exists 4,u,8,g,at0,Z1 4,fun T m=>?_
  have d:=Qb m (.tup [.str "given",.str "low",.str "high",.str "better"])
  exists T,4,.inr (Qn upd_same),rfl,rfl,4,ite2 (fun _=>?_) (fun e=>Y21 Dk e)
  exists 4,4,4,t,u,Z,I,i,4,ProbAt.same d hP,R,.inr ⟨k,.inr (.inr ⟨d.tup g,rfl⟩)⟩,Om,Om,q.later d
 |bet=>
  have g:SqT K H u _:=j
  exists 4,_,"tuple",true,rfl,.tuple,.inl ⟨⟨_,g⟩,rfl⟩,4,iteF ⟨_,rfl,u,_,rfl,.inr g,rfl,_,rfl,iteF ?_⟩
  exists 4,u,8,g,at10,Z1 4,fun T m=>?_
  have d:=Qb m (.tup [.str "given",.str "low",.str "high",.str "better"])
  exists T,4,.inr (Qn upd_same),rfl,rfl,4,ite2 (fun _=>?_) (fun e=>Y21 Dk e)
  exists 4,4,4,t,u,Z,I,i,4,ProbAt.same d hP,R,.inl ⟨d.tup g,rfl⟩,Om,Om,q.later d
 |no=>
  have g:SqT K H u _:=j
  exists 4,_,"tuple",true,rfl,.tuple,.inl ⟨⟨_,g⟩,rfl⟩,4,iteF ⟨_,rfl,u,_,rfl,.inr g,rfl,_,rfl,iteF ?_⟩
  exists 4,u,8,g,at10,Z1 4,fun T m=>?_
  have d:=Qb m (.tup [.str "given",.str "low",.str "high",.str "better"])
  exists T,4,.inr (Qn upd_same),rfl,rfl,4,ite2 (fun e=>Y21 e Dk) (fun _=>?_)
  generalize upd H T (.tup [.str "given",.str "low",.str "high",.str "better"])=H1 at d⊢
  have a:=d.tup g
  exists 4,u,8,a,at10,rfl,4,ite2 (fun e=>Y21 e Dk) (fun _=>iteF ?_)
  exists 4,u,8,a,at10,rfl,4,ite2 (fun e=>Y21 e Dk) (fun _=>iteF ?_)
  exists 4,u,4,.inr a,7,4,ite2 (fun _=>iteT (q.1 rfl _ d)) (fun e=>Y21 (by simp) e)
 |sm ps=>
  obtain⟨l,g,hl⟩:=id j
  exists 4,_,"tuple",true,rfl,.tuple,.inl ⟨⟨_,g⟩,rfl⟩,4,iteF ⟨_,rfl,u,_,rfl,.inr g,rfl,_,rfl,iteF ?_⟩
  exists 4,u,8,g,at0,Z1 4,fun T m=>?_
  have d:=Qb m (.tup [.str "given",.str "low",.str "high",.str "better"])
  exists T,4,.inr (Qn upd_same),rfl,rfl,4,ite2 (fun e=>Y21 e Dk) (fun _=>?_)
  generalize upd H T (.tup [.str "given",.str "low",.str "high",.str "better"])=H1 at d⊢
  have a:=d.tup g
  exists 4,u,8,a,at0,rfl,4,ite2 (fun _=>?_) (fun e=>Y21 Dk e)
  exists 4,u,4,.inr a,rfl,4,ite2 (fun _=>?_) (fun e=>Y21 (by simp) e)
  exists 4,4,4,u,8,a,at1,t,h,l,Z,r,I,ws,ps,rfl,ProbAt.same d hP,d.seq hw,J.imp fun _ _ z=>z.same d,U,af,hl.same d,fun p hp=>(L.2 p hp).2,Om,q.later d
 |lik tt=>
  obtain⟨l,g,hl⟩:=id j
  exists 4,_,"tuple",true,rfl,.tuple,.inl ⟨⟨_,g⟩,rfl⟩,4,iteF ⟨_,rfl,u,_,rfl,.inr g,rfl,_,rfl,iteF ?_⟩
  exists 4,u,8,g,at0,Z1 4,fun T m=>?_
  have d:=Qb m (.tup [.str "given",.str "low",.str "high",.str "better"])
  exists T,4,.inr (Qn upd_same),rfl,rfl,4,ite2 (fun e=>Y21 e Dk) (fun _=>?_)
  generalize upd H T (.tup [.str "given",.str "low",.str "high",.str "better"])=H1 at d⊢
  have a:=d.tup g
  exists 4,u,8,a,at0,rfl,4,ite2 (fun e=>Y21 e Dk) (fun _=>iteF ?_)
  exists 4,u,8,a,at0,rfl,4,ite2 (fun _=>?_) (fun e=>Y21 Dk e)
  exists 4,u,4,.inr a,rfl,4,ite2 (fun _=>?_) (fun e=>Y21 (by simp) e)
  exists 4,4,u,8,a,at1,t,l,Z,I,tt,rfl,ProbAt.same d hP,R,d.seq hl,L,hn,hm,q.later d
 |shr o b=>
  have g:SqT K H u _:=j
  exists 4,_,"tuple",true,rfl,.tuple,.inl ⟨⟨_,g⟩,rfl⟩,4,iteF ⟨_,rfl,u,_,rfl,.inr g,rfl,_,rfl,iteF ?_⟩
  exists 4,u,8,g,at30,Z1 4,fun T m=>?_
  have d:=Qb m (.tup [.str "given",.str "low",.str "high",.str "better"])
  exists T,4,.inr (Qn upd_same),rfl,rfl,4,ite2 (fun e=>Y21 e Dk) (fun _=>?_)
  generalize upd H T (.tup [.str "given",.str "low",.str "high",.str "better"])=H1 at d⊢
  have a:=d.tup g
  exists 4,u,8,a,at30,rfl,4,ite2 (fun e=>Y21 e Dk) (fun _=>iteF ?_)
  exists 4,u,8,a,at30,rfl,4,ite2 (fun e=>Y21 e Dk) (fun _=>iteF ?_)
  exists 4,u,4,.inr a,7,4,ite2 (fun e=>Y21 e (by simp)) (fun _=>?_)
  exists 4,u,8,a,at31,4,h,4,.inl (d.seq hw),o,4,fun bb n=>⟨_,rfl,ite2 (fun y=>?_) (fun y=>?_)⟩
  .refine q.1 (Y20 fun z=>?_) _ d
   have z':InH r o:=z
   rw[n.mpr ⟨z'.1,by rw[lw];exact z'.2⟩]at y;exact Y21 y Dc
  have O:bb=true:=by
   cases bb with
   |true=>rfl
   |false=>exact Y21 rfl y
  obtain⟨o0,X⟩:=n.mp O
  rw[lw]at X
  obtain⟨tr,N,hR,S⟩:=Qaq (J.imp fun _ _ z=>z.same d) o0 X
  have G:=U _ S
  have q2:AnsO K H Q (shrR (rowK r o.toNat) b):=by
   have e:rowL Z I i r (.shr o b)=shrR (rowK r o.toNat) b:=Y22 ⟨o0,X⟩
   rw[e]at q;exact q
  exists 4,u,8,a,at30,rfl,4,ite2 (fun _=>?_) (fun e=>Y21 Dk e)
  exists 4,u,4,.inr a,rfl,4,ite2 (fun _=>?_) (fun e=>Y21 (by simp) e)
  exists 4,4,u,8,a,at31,h,8,d.seq hw,N,4,u,8,a,at32,tr,_,b,rfl,hR,L.2.1,L.2.2,Om,q2.later d
 |sht o hs=>
  obtain⟨l,g,hl⟩:=id j
  exists 4,_,"tuple",true,rfl,.tuple,.inl ⟨⟨_,g⟩,rfl⟩,4,iteF ⟨_,rfl,u,_,rfl,.inr g,rfl,_,rfl,iteF ?_⟩
  exists 4,u,8,g,at30,Z1 4,fun T m=>?_
  have d:=Qb m (.tup [.str "given",.str "low",.str "high",.str "better"])
  exists T,4,.inr (Qn upd_same),rfl,rfl,4,ite2 (fun e=>Y21 e Dk) (fun _=>?_)
  generalize upd H T (.tup [.str "given",.str "low",.str "high",.str "better"])=H1 at d⊢
  have a:=d.tup g
  exists 4,u,8,a,at30,rfl,4,ite2 (fun e=>Y21 e Dk) (fun _=>iteF ?_)
  exists 4,u,8,a,at30,rfl,4,ite2 (fun e=>Y21 e Dk) (fun _=>iteF ?_)
  exists 4,u,4,.inr a,7,4,ite2 (fun e=>Y21 e (by simp)) (fun _=>?_)
  exists 4,u,8,a,at31,4,h,4,.inl (d.seq hw),o,4,fun bb n=>⟨_,rfl,ite2 (fun y=>?_) (fun y=>?_)⟩
  .refine q.1 (Y20 fun z=>?_) _ d
   have z':InH r o:=z
   rw[n.mpr ⟨z'.1,by rw[lw];exact z'.2⟩]at y;exact Y21 y Dc
  have O:bb=true:=by
   cases bb with
   |true=>rfl
   |false=>exact Y21 rfl y
  obtain⟨o0,X⟩:=n.mp O
  rw[lw]at X
  obtain⟨tr,N,hR,S⟩:=Qaq (J.imp fun _ _ z=>z.same d) o0 X
  have G:=U _ S
  have q2:AnsO K H Q (shtR I.length (rowK r o.toNat) hs):=by
   have e:rowL Z I i r (.sht o hs)=shtR I.length (rowK r o.toNat) hs:=Y22 ⟨o0,X⟩
   rw[e]at q;exact q
  have ak:=Qac L.2
  exists 4,u,8,a,at30,rfl,4,ite2 (fun e=>Y21 e Dk) (fun _=>iteF ?_)
  exists 4,u,8,a,at30,rfl,4,ite2 (fun _=>?_) (fun e=>Y21 Dk e)
  exists 4,u,4,.inr a,rfl,4,ite2 (fun _=>?_) (fun e=>Y21 (by simp) e)
  exists 4,4,u,8,a,at31,h,8,d.seq hw,N,4,u,8,a,at32,tr,l,_,hs,I.length,rfl,hR,hl.same d,G,L.2,Om,Om,q2.later d
 |eit o p c=>
  have g:SqT K H u _:=j
  exists 4,_,"tuple",true,rfl,.tuple,.inl ⟨⟨_,g⟩,rfl⟩,4,iteF ⟨_,rfl,u,_,rfl,.inr g,rfl,_,rfl,iteF ?_⟩
  exists 4,u,8,g,at40,Z1 4,fun T m=>?_
  have d:=Qb m (.tup [.str "given",.str "low",.str "high",.str "better"])
  exists T,4,.inr (Qn upd_same),rfl,rfl,4,ite2 (fun e=>Y21 e Dk) (fun _=>?_)
  generalize upd H T (.tup [.str "given",.str "low",.str "high",.str "better"])=H1 at d⊢
  have a:=d.tup g
  exists 4,u,8,a,at40,rfl,4,ite2 (fun e=>Y21 e Dk) (fun _=>iteF ?_)
  exists 4,u,8,a,at40,rfl,4,ite2 (fun e=>Y21 e Dk) (fun _=>iteF ?_)
  exists 4,u,4,.inr a,7,4,ite2 (fun e=>Y21 e (by simp)) (fun _=>?_)
  exists 4,u,8,a,at41,4,h,4,.inl (d.seq hw),o,4,fun bb n=>⟨_,rfl,ite2 (fun y=>?_) (fun y=>?_)⟩
  .refine q.1 (Y20 fun z=>?_) _ d
   have z':InH r o:=z.1
   rw[n.mpr ⟨z'.1,by rw[lw];exact z'.2⟩]at y;exact Y21 y Dc
  have O:bb=true:=by
   cases bb with
   |true=>rfl
   |false=>exact Y21 rfl y
  obtain⟨o0,X⟩:=n.mp O
  rw[lw]at X
  obtain⟨tr,N,hR,S⟩:=Qaq (J.imp fun _ _ z=>z.same d) o0 X
  have G:=U _ S
  exists 4,u,8,a,at40,rfl,4,ite2 (fun e=>Y21 e Dk) (fun _=>iteF ?_)
  exists 4,u,8,a,at40,rfl,4,ite2 (fun e=>Y21 e Dk) (fun _=>iteF ?_)
  exists 4,u,8,a,at40,rfl,4,ite2 (fun _=>?_) (fun e=>Y21 Dk e)
  exists 4,u,4,.inr a,rfl,4,ite2 (fun _=>?_) (fun e=>Y21 (by simp) e)
  exists 4,u,8,a,at42,4,h,4,.inl (d.seq hw),p,4,fun b2 aa=>⟨_,rfl,ite2 (fun y2=>?_) (fun y2=>iteF (q.1 (Y20 fun z=>?_) _ d))⟩
  case refine_2=>exact y2 (aa.mpr ⟨z.2.1.1,by rw[lw];exact z.2.1.2⟩)
  obtain⟨q0,q1⟩:=aa.mp y2
  rw[lw]at q1
  obtain⟨ag,ab,ae,ad⟩:=Qaq (J.imp fun _ _ z=>z.same d) q0 q1
  exists 4,u,8,a,at43,4,t,8,d.tup p1,at1,cP,4,.inr (d.tup p4),c,4,fun b3 ac=>⟨_,rfl,ite2 (fun y3=>?_) (fun y3=>q.1 (Y20 fun z=>y3 (ac.mpr ⟨z.2.2.1,by rw[jQ];exact z.2.2.2⟩)) _ d)⟩
  obtain⟨c0,c1⟩:=ac.mp y3
  rw[jQ]at c1
  obtain⟨c',rfl⟩:∃c':Nat,c=(c':Int):=⟨c.toNat,Om⟩
  have q2:AnsO K H Q (eitR (rowK r o.toNat) (rowK r p.toNat) c'):=by
   have e:rowL Z I i r (.eit o p (c':Int))=eitR (rowK r o.toNat) (rowK r p.toNat) (c':Int).toNat:=Y22 ⟨⟨o0,X⟩,⟨q0,q1⟩,c0,c1⟩
   rw[jQc]at e
   rw[e]at q;exact q
  exists 4,4,u,8,a,at41,h,8,d.seq hw,N,4,4,u,8,a,at42,h,8,d.seq hw,ab,4,u,8,a,at43,tr,ag,_,_,c',I.length,rfl,hR,ae,G,U _ ad,Om,Om,q2.later d
theorem Kf:bootBuiltins "divmod"=some (.builtin "divmod"):=Dk
theorem Qsf(ns:List Int)(k:Nat)(y:Int):insV (ns.map V.int) k (.int y)=(ns.take k++y::ns.drop k).map V.int:=by
 unfold insV
 rw[kY,xX,kZa,kZb]
theorem PairsAre.updL(a:H g=some (.lst xs))(h:PairsAre K H vs ps):PairsAre K (L2.upd H g (.lst ys)) vs ps:=PairsAre.upd a h
def mx1(x:Int):Int:=if x > 1 then x else 1
theorem Qpg{x:Int}(h:x<=2000):0<mx1 x/\mx1 x<1073741824/\mx1 x<=2000:=by unfold mx1;split<;>lia
def Xy(y:Int):Nat->List (Int×Int)×Int
 |0=>([],y)
 |i+1=>(if (Xy y i).2 % 3<2 then(Xy y i).1++[((i:Int),(Xy y i).2 % 3)]else(Xy y i).1,(Xy y i).2 / 3)
theorem Qar(y:Int):∀i,Good i (Xy y i).1
 |0=>⟨kKd,fun _ h=>(nomatch h)⟩
 |i+1=>by
  have d:=Qar y i
  have up:Good (i+1) (Xy y i).1:=⟨d.nd,fun p c=>by have:=d.ok p c;lia⟩
  show Good (i+1) (if (Xy y i).2 % 3<2 then(Xy y i).1++[((i:Int),(Xy y i).2 % 3)]else(Xy y i).1)
  split
  .refine⟨?_,fun p c=>?_⟩
   .rw[kY,List.nodup_append]
    exists d.nd,by simp,fun a g b f=>?_
    obtain⟨p,c,rfl⟩:=zJ.mp g
    have:=d.ok p c
    have e:b=(i:Int):=by simpa using f
    lia
   .rcases xK.mp c with h | h
    .exact up.ok p h
    .rw[kW.mp h]
     exists by show(0:Int)<=(i:Int);lia,by show(i:Int)<((i+1:Nat):Int);lia,by show(Xy y i).2 % 3=0\/(Xy y i).2 % 3=1;lia
  .exact up
def Zm(y:Int):Nat->List Nat×Int
 |0=>([],y)
 |i+1=>((Zm y i).1.take ((Zm y i).2 % ((i:Int)+1)).toNat++i::(Zm y i).1.drop ((Zm y i).2 % ((i:Int)+1)).toNat,(Zm y i).2 / ((i:Int)+1))
theorem Qcw(y:Int):∀i,IsTurn i (Zm y i).1
 |0=>⟨.refl _⟩
 |i+1=>Qqt (Qcw y i) _
def dl(n m:Nat)(w o1 o2 ch y:Int):DL :=
 if w=0 then .giv (y % mx1 (m:Int))else if w=1 then .low ch else if w=2 then .high ch else if w=3 then .bet
 else if w=4 then(if y / 12 % 2=0 then .sm [(o1,y % 3)]else .sm [(o1,y % 3),(o2,y / 3 % 4)])
 else if w=5 then .shr o1 (1+y % 3)else if w=7 then(if y % 2=0 then .eit o1 o2 ch else .lik (Zm (y / 2) n).1)else .sht o1 (Xy y n).1
def Qcx(n m:Nat)(seen z:Int):DL:=dl n m (z % 8) (z / 8 % mx1 seen) (z / 8 / mx1 seen % mx1 seen) (z / 8 / mx1 seen / mx1 seen % mx1 (n:Int)) (z / 8 / mx1 seen / mx1 seen / mx1 (n:Int))
section
variable{w o1 o2 ch y:Int}
theorem dl0(h:w=0):dl n m w o1 o2 ch y=.giv (y % mx1 (m:Int)):=by subst h;rfl
theorem dl1(h:w=1):dl n m w o1 o2 ch y=.low ch:=by subst h;rfl
theorem dl2(h:w=2):dl n m w o1 o2 ch y=.high ch:=by subst h;rfl
theorem dl3(h:w=3):dl n m w o1 o2 ch y=.bet:=by subst h;rfl
theorem dl4a(h:w=4)(e:y / 12 % 2=0):dl n m w o1 o2 ch y=.sm [(o1,y % 3)]:=by subst h;exact Y22 e
theorem dl4b(h:w=4)(e:y / 12 % 2=1):dl n m w o1 o2 ch y=.sm [(o1,y % 3),(o2,y / 3 % 4)]:=by subst h;show(if y / 12 % 2=0 then _ else _)=_;rw[Y20 (show ¬y / 12 % 2=0 by lia)]
theorem dl5(h:w=5):dl n m w o1 o2 ch y=.shr o1 (1+y % 3):=by subst h;rfl
theorem dl7a(h:w=7)(e:y % 2=0):dl n m w o1 o2 ch y=.eit o1 o2 ch:=by subst h;exact Y22 e
theorem dl7b(h:w=7)(e:y % 2=1):dl n m w o1 o2 ch y=.lik (Zm (y / 2) n).1:=by subst h;show(if y % 2=0 then _ else _)=_;rw[Y20 (show ¬y % 2=0 by lia)]
theorem dl6(h:w=6):dl n m w o1 o2 ch y=.sht o1 (Xy y n).1:=by subst h;rfl
end
inductive spTrn(K:Fg)(vs:List V)(H:Hp)(Q:VK)(E:XK):Prop|mk(z:Int)(n:Nat)(_:vs=[.int z,.int (n:Int)])(_:n<=20)(_:∀(l:Addr) (H':Hp),Same H H'->H l=none->H' l=some (.lst ((tI (Zm z n).1).map V.int))->Q (.ref l) H'):spTrn K vs H Q E
def DLN(K:Fg)(H0 H:Hp)(u:Addr):DL->Prop
 |.sm ps=>∃l ws,H0 l=none/\SqT K H u [.str "sum",.ref l]/\H l=some (.lst ws)/\PairsAre K H ws (ps.map fun p=>(p.1,V.int p.2))
 |.sht o hs=>∃l ws,H0 l=none/\SqT K H u [.str "shut",.int o,.ref l]/\H l=some (.lst ws)/\PairsAre K H ws (hs.map fun p=>(p.1,V.int p.2))
 |.lik ts=>∃l,H0 l=none/\SqT K H u [.str "like",.ref l]/\H l=some (.lst ((tI ts).map V.int))
 |ln=>DLAt K H u ln
theorem DLN.dlat{u:Addr}{ln:DL}(h:DLN K H0 H u ln):DLAt K H u ln:=by
 cases ln with
 |sm ps=>obtain⟨l,e,_,d,a,f⟩:=h;exists l,d,e,Qg a,f
 |sht o hs=>obtain⟨l,e,_,d,a,f⟩:=h;exists l,d,e,Qg a,f
 |lik ts=>obtain⟨l,_,d,a⟩:=h;exists l,d,Qg a
 |giv k=>exact h
 |low k=>exact h
 |high k=>exact h
 |bet=>exact h
 |no=>exact h
 |shr o b=>exact h
 |eit o p c=>exact h
theorem DLN.updL{u:Addr}{ln:DL}(h:DLN K H0 H u ln)(a:H g=some (.lst xs))(m:H0 g≠none):DLN K H0 (upd H g (.lst ys)) u ln:=by
 have ne:∀l,H0 l=none->l≠g:=fun l e z=>m (by rw[<-z];exact e)
 cases ln with
 |sm ps=>obtain⟨l,i,n,f,d,j⟩:=h;exists l,i,n,Xv a f,by rw[Qj (ne l n)];exact d,PairsAre.updL a j
 |sht o hs=>obtain⟨l,i,n,f,d,j⟩:=h;exists l,i,n,Xv a f,by rw[Qj (ne l n)];exact d,PairsAre.updL a j
 |lik ts=>obtain⟨l,n,f,d⟩:=h;exists l,n,Xv a f,by rw[Qj (ne l n)];exact d
 |giv k=>exact Xv a h
 |low k=>exact Xv a h
 |high k=>exact Xv a h
 |bet=>exact Xv a h
 |no=>exact Xv a h
 |shr o b=>exact Xv a h
 |eit o p c=>exact Xv a h
theorem DLN.same{u:Addr}{ln:DL}(h:DLN K H0 H u ln)(s:Same H H'):DLN K H0 H' u ln:=by
 cases ln with
 |sm ps=>obtain⟨l,e,n,d,a,f⟩:=h;exists l,e,n,s.tup d,s _ _ a,PairsAre.same s f
 |sht o hs=>obtain⟨l,e,n,d,a,f⟩:=h;exists l,e,n,s.tup d,s _ _ a,PairsAre.same s f
 |lik ts=>obtain⟨l,n,d,a⟩:=h;exists l,n,s.tup d,s _ _ a
 |giv k=>exact s.tup h
 |low k=>exact s.tup h
 |high k=>exact s.tup h
 |bet=>exact s.tup h
 |no=>exact s.tup h
 |shr o b=>exact s.tup h
 |eit o p c=>exact s.tup h
theorem DLN.older{u:Addr}{ln:DL}(h:DLN K H1 H u ln)(d:∀l,H1 l=none->H0 l=none):DLN K H0 H u ln:=by
 cases ln with
 |sm ps=>obtain⟨l,e,n,a⟩:=h;exists l,e,d l n,a
 |sht o hs=>obtain⟨l,e,n,a⟩:=h;exists l,e,d l n,a
 |lik ts=>obtain⟨l,n,a⟩:=h;exists l,d l n,a
 |giv k=>exact h
 |low k=>exact h
 |high k=>exact h
 |bet=>exact h
 |no=>exact h
 |shr o b=>exact h
 |eit o p c=>exact h
inductive Qph(K:Fg)(vs:List V)(H:Hp)(Q:VK)(E:XK):Prop|mk(t:Addr)(rs:List (List Int×Int))(cs:List Int)(seen z:Int)(_:vs=[.ref t,.int seen,.int z])(_:ProbAt K H t rs cs)(_:cs.length<=20)(_:rs.length<=20)(_:seen<=1000)(_:∀(u:Addr) (H':Hp),Same H H'->DLN K H H' u (Qcx cs.length rs.length seen z)->DLok cs.length (Qcx cs.length rs.length seen z)->Q (.ref u) H'):Qph K vs H Q E
abbrev Qsg:Stmt:=top 60
theorem scTurn:FnScope ["_law_left_here","_law_many","_law_turn_here","_law_k","_law_place"] ["_law_left_here","_law_many"] (Qf Qsg):=Sc
theorem okTurn(F:Fn K mg "_law_turn" Qsg)(M:Mg mg)(R:mg "divmod"=none):qC 1 "_law_turn" ["_law_left_here","_law_many"] (spTrn K):=by
 refine Xf F scTurn (a:=fun f N A r s H J Q E T h=>?_)
 obtain⟨z,n,rfl,U,q⟩:=h
 refine⟨_,(Qd (Z4 2 scTurn.nd (Xo Qc))
  (Qd (Yo PassesOwn.never rfl (Yt rfl M.range_ (Qa (pv 1) Qc)) (Z3 3 scTurn.nd) (Qd (Zp (Qk Zu rfl R Kf (Qa (pv 0) (Qa (Qu Yp (pv 3) Qe) Qc))) (Yb (K:=K) (i:=0) (j:=4) rfl rfl scTurn.nd rfl rfl rfl rfl))
  (Qh (Yn (Va Y1 PySem.F.slot_list_insert PySem.F.type_list_insert Qnf (pv 2) (Qa (pv 4) (Qa (pv 3) Qc)))))))
  (Qh (Qp (pv 2))))),?_⟩
 refine Ji ?_;intros
 exists"z"
 exists Z1 0,fun l t=>?_
 have G:=Qb t (.lst [])
 have D:upd H l (.lst []) l=some (.lst []):=upd_same
 generalize upd H l (.lst [])=H1 at G D⊢
 exists 4,4,Om,Om,Kb (lo:=0) (n:=Int.toNat (n:Int)) (fun i m c=>∃(y u:Option V),m=[some (.int (Zm z i).2),some (.int (n:Int)),some (.ref l),y,u]/\c l=some (.lst ((tI (Zm z i).1).map V.int))/\Same H c) ⟨none,none,rfl,D,G⟩ ?_ ?_
 .rintro i m c W ⟨y,u,rfl,d,v⟩
  have x:(tI (Zm z i).1).length=i:=by rw[Vd];exact(Qcw z i).length
  have g:Zm z (i+1)=((Zm z i).1.take ((Zm z i).2 % ((i:Int)+1)).toNat++i::(Zm z i).1.drop ((Zm z i).2 % ((i:Int)+1)).toNat,(Zm z i).2 / ((i:Int)+1)):=rfl
  rw[g]
  clear g
  generalize Zm z i=TT at d x⊢
  obtain⟨a,k⟩:=TT
  have d:c l=some (.lst ((tI a).map V.int)):=d
  have x:(tI a).length=i:=x
  dsimp only
  exists 4,4,7,_,4,⟨by show(0:Int)<0+(i:Int)+1;lia,by show(0:Int)+(i:Int)+1<1073741824;lia⟩,fun p O=>?_
  rw[kJb]
  have C:=Qb O (.tup [.int (k / ((i:Int)+1)),.int (k % ((i:Int)+1))])
  have B:=C _ _ d
  have I:=jQf k (show(i:Int)+1≠0 by lia)
  have Y:=jQa k (show(0:Int)<(i:Int)+1 by lia)
  exists p,4,Qn upd_same,rfl,_,4,7,?_
  exists 4,.inl ⟨rfl,_,Qg B⟩,4,4,l,8,B,I,by rw[jQ];lia,by rw[jQ];lia,?_
  rw[Qsf]
  exists _,4,?_,fun b o e=>?_
  .rw[upd_same]
   show some (HO.lst (((tI a).take _++(i:Int)::(tI a).drop _).map V.int))=some (HO.lst ((tI (a.take _++i::a.drop _)).map V.int))
   unfold tI
   simp only[kY,xX,kZa,kZb]
  .rw[Qj (Qi e t)];exact C _ _ (v _ _ e)
 .rintro m c ⟨y,u,rfl,d,v⟩
  exists 4,q l c v t d
abbrev Qhk:Stmt:=top 59
theorem scDrawn:FnScope ["_law_problem_here","_law_many_seen","_law_cell","_law_many","_law_left_here","_law_word","_law_one","_law_other_here","_law_choice","_law_holds_here","_law_k","_law_worth"] ["_law_problem_here","_law_many_seen","_law_cell"] (Qf Qhk):=Sc
theorem Qvg(F:Fn K mg "_law_drawn" Qhk)(M:Mg mg)(DM:mg "divmod"=none)(S:qC 1 "_law_turn" ["_law_left_here","_law_many"] (spTrn K)):qC 2 "_law_drawn" ["_law_problem_here","_law_many_seen","_law_cell"] (Qph K):=by
 refine Xf F scDrawn (a:=fun f aH A ax s H vs Q E hr h=>?_)
 obtain⟨t,rs,v,a,z,rfl,⟨lP,c,vP,ht,aC,az,hc⟩,hn,hm,aG,q⟩:=h
 have B:=Z6 1 hr.un
 refine⟨_,(Qd (Z4 3 scDrawn.nd (qL (Qo Qm (pv 0) Qe)))
  (Qd (Zp (Qk Zu rfl DM Kf (Qa (pv 2) (Qa Qe Qc))) (Yb (K:=K) (i:=4) (j:=5) rfl rfl scDrawn.nd rfl rfl rfl rfl))
  (Qd (Zp (Qk Zu rfl DM Kf (Qa (pv 4) (Qa (Qk (Kc rfl) rfl M.max Qdl (Qa Qe (Qa (pv 1) Qc))) Qc))) (Yb (K:=K) (i:=4) (j:=6) rfl rfl scDrawn.nd rfl rfl rfl rfl))
  (Qd (Zp (Qk Zu rfl DM Kf (Qa (pv 4) (Qa (Qk (Kc rfl) rfl M.max Qdl (Qa Qe (Qa (pv 1) Qc))) Qc))) (Yb (K:=K) (i:=4) (j:=7) rfl rfl scDrawn.nd rfl rfl rfl rfl))
  (Qd (Zp (Qk Zu rfl DM Kf (Qa (pv 4) (Qa (Qk (Kc rfl) rfl M.max Qdl (Qa Qe (Qa (pv 3) Qc))) Qc))) (Yb (K:=K) (i:=4) (j:=8) rfl rfl scDrawn.nd rfl rfl rfl rfl))
  (Qd (Xg (Qr Yh (pv 5) Qe (Qs _)) (Qh (Qp (Qy (Qa Xj (Qa (Qu Yl (pv 4) (Qk (Kc rfl) rfl M.max Qdl (Qa Qe (Qa (qL (Qo Qm (pv 0) Qe)) Qc)))) Qc))))) Qq)
  (Qd (Xg (Qr Wl (pv 5) (Qy (Qa Qe (Qa Qe Qc))) rfl) (Qh (Qp (Qy (Qa (Qo ix_list (Xo (Qa Xj (Qa Xj Qc))) (Qu Ys (pv 5) Qe)) (Qa (pv 8) Qc))))) Qq)
  (Qd (Xg (Qr Yh (pv 5) Qe (Qs _)) (Qh (Qp (Qy (Qa Xj Qc)))) Qq)
  (Qd (Xg (Qr Yh (pv 5) Qe (Qs _)) (Qh (Qp (Qy (Qa Xj (Qa (Yi Kg (Xo (Qa (Qy (Qa (pv 6) (Qa (Qu Yl (pv 4) Qe) Qc))) (Qa (Qy (Qa (pv 7) (Qa (Qu Yl (Qu Zq (pv 4) Qe) Qe) Qc))) Qc))) Zv (Yj (Qu Yp Qe (Qu Yl (Qu Zq (pv 4) Qe) Qe)))) Qc))))) Qq)
  (Qd (Xg (Qr Yh (pv 5) Qe (Qs _)) (Qh (Qp (Qy (Qa Xj (Qa (pv 6) (Qa (Qu Yp Qe (Qu Yl (pv 4) Qe)) Qc)))))) Qq)
  (Qd (Xg (Qr Yh (pv 5) Qe (Qs _)) (Qh (Qp (Qo ix_list (Xo (Qa (Qy (Qa Xj (Qa (pv 6) (Qa (pv 7) (Qa (pv 8) Qc))))) (Qa (Qy (Qa Xj (Qa (Xc S (hr.mono Dc) (Qa (Qu Zq (pv 4) Qe) (Qa (pv 3) Qc))) Qc))) Qc))) (Qu Yl (pv 4) Qe)))) Qq)
  (Qd (Z4 9 scDrawn.nd (Xo Qc))
  (Qd (Yo PassesOwn.never rfl (Yt rfl M.range_ (Qa (pv 3) Qc)) (Z3 10 scDrawn.nd) (Qd (Zp (Qk Zu rfl DM Kf (Qa (pv 4) (Qa Qe Qc))) (Yb (K:=K) (i:=4) (j:=11) rfl rfl scDrawn.nd rfl rfl rfl rfl))
  (Qh (Xg (Qr Qft (pv 11) Qe (Qs _)) (Qh (Yn (Va Y1 Y2 Y3 Xx (pv 9) (Qa (Qy (Qa (pv 10) (Qa (pv 11) Qc))) Qc)))) Qq))))
  (Qh (Qp (Qy (Qa Xj (Qa (pv 6) (Qa (pv 9) Qc))))))))))))))))))),?_⟩
 exists"z"
 have lr:=Paired.length az
 have lc:(v.map V.int).length=v.length:=jQ ..
 have q:∀(u:Addr) (ln:DL) (H':Hp),ln=Qcx v.length rs.length a z->Same H H'->DLN K H H' u ln->DLok v.length ln->Q (.ref u) H':=fun u ln H' e s d o=>by subst e;exact q u H' s d o
 exists 4,t,8,ht,at1,c,4,.inr hc,?_
 exists 4,_,4,⟨Dc,Dc⟩,fun p1 aD=>?_
 have s1:=Qb aD (.tup [.int (z / 8),.int (z % 8)])
 have h1:upd H p1 (.tup [.int (z / 8),.int (z % 8)]) p1=some (.tup [.int (z / 8),.int (z % 8)]):=upd_same
 generalize upd H p1 (.tup [.int (z / 8),.int (z % 8)])=H1 at s1 h1⊢
 exists p1,4,Qn h1,rfl,_,4,7,?_
 have an:=jQf z (show(8:Int)≠0 by decide)
 have ap:=jQa z (show(0:Int)<8 by decide)
 unfold Qcx at q
 generalize z % 8=w at an ap h1 q⊢
 generalize z / 8=O at h1 q⊢
 obtain⟨j2,j3,jm⟩:=Qpg (show a<=2000 by lia)
 exists 4,4,_,4,_,4,⟨j2,j3⟩,fun p2 aw=>?_
 generalize em:mx1 a=m at j2 j3 jm q
 have ah:(if a > 1 then a else 1)=m:=em
 rw[ah]
 have oa:=jQf O (show m≠0 by lia)
 have ob:=jQa O j2
 have s2:=s1.trans (Qb aw (.tup [.int (O / m),.int (O % m)]))
 have h2:upd H1 p2 (.tup [.int (O / m),.int (O % m)]) p2=some (.tup [.int (O / m),.int (O % m)]):=upd_same
 generalize upd H1 p2 (.tup [.int (O / m),.int (O % m)])=H2 at s2 h2⊢
 exists p2,4,Qn h2,rfl,_,4,7,?_
 generalize O % m=o1 at h2 q oa ob⊢
 generalize O / m=N at h2 q⊢
 exists 4,4,_,4,_,4,(show 0<(if a > 1 then a else 1)/\(if a > 1 then a else 1)<1073741824 by rw[ah];exact⟨j2,j3⟩),fun p3 aq=>?_
 rw[ah]
 have oc:=jQf N (show m≠0 by lia)
 have od:=jQa N j2
 have s3:=s2.trans (Qb aq (.tup [.int (N / m),.int (N % m)]))
 have h3:upd H2 p3 (.tup [.int (N / m),.int (N % m)]) p3=some (.tup [.int (N / m),.int (N % m)]):=upd_same
 generalize upd H2 p3 (.tup [.int (N / m),.int (N % m)])=H3 at s3 h3⊢
 exists p3,4,Qn h3,rfl,_,4,7,?_
 generalize N % m=o2 at h3 q oc od⊢
 generalize N / m=J at h3 q⊢
 obtain⟨j6,j7,jn⟩:=Qpg (show(((v.map V.int).length:Nat):Int)<=2000 by lia)
 exists 4,4,_,4,_,4,⟨j6,j7⟩,fun p4 aA=>?_
 rw[show mx1 (v.length:Int)=mx1 (((v.map V.int).length:Nat):Int)by rw[lc]]at q
 generalize en:mx1 (((v.map V.int).length:Nat):Int)=m2 at j6 j7 jn q
 have au:(if (((v.map V.int).length:Nat):Int) > 1 then(((v.map V.int).length:Nat):Int)else 1)=m2:=en
 rw[au]
 have oe:=jQf J (show m2≠0 by lia)
 have aE:=jQa J j6
 have s4:=s3.trans (Qb aA (.tup [.int (J / m2),.int (J % m2)]))
 have h4:upd H3 p4 (.tup [.int (J / m2),.int (J % m2)]) p4=some (.tup [.int (J / m2),.int (J % m2)]):=upd_same
 generalize upd H3 p4 (.tup [.int (J / m2),.int (J % m2)])=H4 at s4 h4⊢
 exists p4,4,Qn h4,rfl,_,4,7,?_
 generalize J % m2=ch at h4 q oe aE⊢
 generalize J / m2=y at h4 q⊢
 clear h1 h2 h3 h4
 have aK:∀l,H4 l=none->H l=none:=fun l e=>by
  cases X:H l with
  |none=>rfl
  |some o=>rw[s4 _ _ X]at e;cases e
 exists 4,rfl,4,ite2 (fun c0=>?_) (fun c0=>?_)
 .obtain⟨j8,j9,aJ⟩:=Qpg (show(vP.length:Int)<=2000 by lia)
  have k1:=jQf y (show mx1 (vP.length:Int)≠0 by lia)
  have k2:=jQa y j8
  exists 4,4,t,8,s4.tup ht,at0,lP,4,.inl (s4.seq aC),_,4,7,j8,Z1 2,fun u B=>?_
  exact q u (.giv (y % mx1 (vP.length:Int))) _ ((by rw[lr]:DL.giv (y % mx1 (vP.length:Int))=.giv (y % mx1 (rs.length:Int))).trans (dl0 (V.int.inj (yQ c0))).symm) (s4.trans (Qb B _)) (Qn upd_same) ⟨k1,by show y % mx1 (vP.length:Int)<1000000;lia⟩
 exists 4,Z1 2,fun T hT=>?_
 have s5:=s4.trans (Qb hT (.tup [.int 1,.int 2]))
 have ak:SqT K (upd H4 T (.tup [.int 1,.int 2])) T [.int 1,.int 2]:=Qn upd_same
 generalize upd H4 T (.tup [.int 1,.int 2])=H5 at s5 ak⊢
 exists T,4,.inr ak,rfl,rfl,4,ite2 (fun ao=>?_) (fun ar=>?_)
 .have hy:w=1\/w=2:=by
   have y':((1:Int) == w||((2:Int) == w||false))=true:=ao
   simp only[jZc,beq_iff_eq,wV,or_false]at y'
   lia
  exists Z1 2,fun L hL=>?_
  have s6:=s5.trans (Qb hL (.lst [.str "low",.str "high"]))
  have ag:upd H5 L (.lst [.str "low",.str "high"]) L=some (.lst [.str "low",.str "high"]):=upd_same
  generalize upd H5 L (.lst [.str "low",.str "high"])=H6 at s6 ag⊢
  rcases hy with rfl | rfl
  .refine⟨_,rfl,_,_,rfl,rfl,L,_,_,_,rfl,rfl,Qg ag,(show atI [V.str "low",V.str "high"] ((0:Nat):Int)=some (.str "low")from rfl),_,rfl,Z1 2,fun u B=>?_⟩
   exact q u (.low ch) _ (dl1 rfl).symm (s6.trans (Qb B _)) (Qn upd_same) ⟨oe,Om⟩
  .refine⟨_,rfl,_,_,rfl,rfl,L,_,_,_,rfl,rfl,Qg ag,(show atI [V.str "low",V.str "high"] ((1:Nat):Int)=some (.str "high")from rfl),_,rfl,Z1 2,fun u B=>?_⟩
   exact q u (.high ch) _ (dl2 rfl).symm (s6.trans (Qb B _)) (Qn upd_same) ⟨oe,Om⟩
 have aF:w≠1/\w≠2:=by
  have y':¬((1:Int) == w||((2:Int) == w||false))=true:=ar
  simp only[jZc,beq_iff_eq,wV,or_false]at y'
  lia
 have aa:∀l,H5 l=none->H l=none:=fun l e=>by
  cases X:H l with
  |none=>rfl
  |some o=>rw[s5 _ _ X]at e;cases e
 exists 4,rfl,4,ite2 (fun c3=>?_) (fun c3=>?_)
 .refine⟨Z1 1,fun u B=>?_⟩
  exact q u .bet _ (dl3 (V.int.inj (yQ c3))).symm (s5.trans (Qb B _)) (Qn upd_same) trivial
 exists 4,rfl,4,ite2 (fun c4=>?_) (fun c4=>?_)
 .refine⟨_,rfl,_,rfl,_,_,rfl,rfl,by show(0:Int)<3;decide,Z1 2,fun k af=>?_⟩
  have a1:=Qb af (.tup [.int o1,.int (y % 3)])
  have h6:upd H5 k (.tup [.int o1,.int (y % 3)]) k=some (.tup [.int o1,.int (y % 3)]):=upd_same
  generalize upd H5 k (.tup [.int o1,.int (y % 3)])=H6 at a1 h6⊢
  exists 4,4,7,⟨Dc,Dc⟩,7,by show(0:Int)<4;decide,Z1 2,fun r ab=>?_
  have a2:=Qb ab (.tup [.int o2,.int (y / 3 % 4)])
  have Y:upd H6 r (.tup [.int o2,.int (y / 3 % 4)]) r=some (.tup [.int o2,.int (y / 3 % 4)]):=upd_same
  generalize upd H6 r (.tup [.int o2,.int (y / 3 % 4)])=G at a2 Y⊢
  exists Z1 2,fun L hL=>?_
  have a3:=Qb hL (.lst [.ref k,.ref r])
  have h8:upd G L (.lst [.ref k,.ref r]) L=some (.lst [.ref k,.ref r]):=upd_same
  generalize upd G L (.lst [.ref k,.ref r])=H8 at a3 h8⊢
  have s8:=s5.trans ((a1.trans a2).trans a3)
  have al:SqT K H8 k [.int o1,.int (y % 3)]:=Qn (a3 _ _ (a2 _ _ h6))
  have av:SqT K H8 r [.int o2,.int (y / 3 % 4)]:=Qn (a3 _ _ Y)
  exists 4,7,⟨Dc,Dc⟩,7,by show(0:Int)<2;decide,_,_,rfl,rfl,_,rfl,L,_,rfl,Qg h8,fun R W=>?_
  have ai:H R=none:=by
   cases X:H R with
   |none=>rfl
   |some o=>rw[s8 _ _ X]at W;cases W
  have b0:0<=y % 3/\y % 3<=3:=Om
  have b1:0<=y / 3 % 4/\y / 3 % 4<=3:=Om
  rcases(show y / 12 % 2=0\/y / 12 % 2=1 by lia)with e | e
  .rw[e,show cutV [V.ref k,V.ref r] none (some (1+0))=[.ref k]from rfl]
   have a4:=Qb W (.lst [.ref k])
   have I:upd H8 R (.lst [.ref k]) R=some (.lst [.ref k]):=upd_same
   generalize upd H8 R (.lst [.ref k])=H9 at a4 I⊢
   exists Z1 2,fun u B=>?_
   have Z:=Qb B (.tup [.str "sum",.ref R])
   refine q u (.sm [(o1,y % 3)]) _ (dl4a (V.int.inj (yQ c4)) e).symm ((s8.trans a4).trans Z) ⟨R,_,ai,Qn upd_same,Z _ _ I,.cons ⟨k,rfl,Z.tup (a4.tup al)⟩ .nil⟩ ⟨by show 1<=10;decide,fun p hp=>?_⟩
   rw[kW.mp hp];exists ⟨oa,by show o1<1000000;lia⟩,b0
  .rw[e,show cutV [V.ref k,V.ref r] none (some (1+1))=[.ref k,.ref r]from rfl]
   have a4:=Qb W (.lst [.ref k,.ref r])
   have I:upd H8 R (.lst [.ref k,.ref r]) R=some (.lst [.ref k,.ref r]):=upd_same
   generalize upd H8 R (.lst [.ref k,.ref r])=H9 at a4 I⊢
   exists Z1 2,fun u B=>?_
   have Z:=Qb B (.tup [.str "sum",.ref R])
   refine q u (.sm [(o1,y % 3),(o2,y / 3 % 4)]) _ (dl4b (V.int.inj (yQ c4)) e).symm ((s8.trans a4).trans Z) ⟨R,_,ai,Qn upd_same,Z _ _ I,.cons ⟨k,rfl,Z.tup (a4.tup al)⟩ (.cons ⟨r,rfl,Z.tup (a4.tup av)⟩ .nil)⟩ ⟨by show 2<=10;decide,fun p hp=>?_⟩
   rcases yK.mp hp with h | h
   .rw[h];exists ⟨oa,by show o1<1000000;lia⟩,b0
   .rw[kW.mp h];exists ⟨oc,by show o2<1000000;lia⟩,b1
 exists 4,rfl,4,ite2 (fun c5=>?_) (fun c5=>?_)
 .refine⟨_,rfl,_,rfl,_,_,rfl,rfl,by show(0:Int)<3;decide,_,_,rfl,rfl,Z1 3,fun u B=>?_⟩
  exact q u (.shr o1 (1+y % 3)) _ (dl5 (V.int.inj (yQ c5))).symm (s5.trans (Qb B _)) (Qn upd_same) ⟨⟨oa,Om⟩,Om,Om⟩
 exists 4,rfl,4,ite2 (fun c7=>?_) (fun c7=>?_)
 .refine⟨_,rfl,_,rfl,_,rfl,Z1 4,fun k af=>?_⟩
  have a1:=Qb af (.tup [.str "either",.int o1,.int o2,.int ch])
  have h6:upd H5 k (.tup [.str "either",.int o1,.int o2,.int ch]) k=some (.tup [.str "either",.int o1,.int o2,.int ch]):=upd_same
  generalize upd H5 k (.tup [.str "either",.int o1,.int o2,.int ch])=H6 at a1 h6⊢
  exists 4,7,⟨Dc,Dc⟩,4,y / 2,v.length,by rw[lc];rfl,hn,fun l G s7 aj aB=>?_
  exists Z1 2,fun r ab=>?_
  have x:=Qb ab (.tup [.str "like",.ref l])
  have h8:upd G r (.tup [.str "like",.ref l]) r=some (.tup [.str "like",.ref l]):=upd_same
  generalize upd G r (.tup [.str "like",.ref l])=H8 at x h8⊢
  exists Z1 2,fun L hL=>?_
  have U:=Qb hL (.lst [.ref k,.ref r])
  have I:upd H8 L (.lst [.ref k,.ref r]) L=some (.lst [.ref k,.ref r]):=upd_same
  generalize upd H8 L (.lst [.ref k,.ref r])=H9 at U I⊢
  have s9:=(s5.trans a1).trans ((s7.trans x).trans U)
  have l0:H l=none:=aa l (by
   cases X:H5 l with
   |none=>rfl
   |some o=>rw[a1 _ _ X]at aj;cases aj)
  rcases(show y % 2=0\/y % 2=1 by lia)with e | e
  .exact⟨_,rfl,_,_,rfl,rfl,by show(0:Int)<2;decide,L,_,_,_,rfl,rfl,Qg I,(show atI [V.ref k,V.ref r] (y % 2)=some (.ref k)by rw[e];rfl),q k (.eit o1 o2 ch) _ (dl7a (V.int.inj (yQ c7)) e).symm s9 (Qn (((s7.trans x).trans U) _ _ h6)) ⟨⟨oa,Om⟩,⟨oc,Om⟩,oe,Om⟩⟩
  .exact⟨_,rfl,_,_,rfl,rfl,by show(0:Int)<2;decide,L,_,_,_,rfl,rfl,Qg I,(show atI [V.ref k,V.ref r] (y % 2)=some (.ref r)by rw[e];rfl),q r (.lik (Zm (y / 2) v.length).1) _ (dl7b (V.int.inj (yQ c7)) e).symm s9 ⟨l,l0,Qn (U _ _ h8),(x.trans U) _ _ aB⟩ ⟨_,Om,Qcw _ _⟩⟩
 exists Z1 0,fun g hg=>?_
 have a6:=Qb hg (.lst [])
 have h6:upd H5 g (.lst []) g=some (.lst []):=upd_same
 generalize upd H5 g (.lst [])=H6 at a6 h6⊢
 have g0:=aa g hg
 have w6:w=6:=by
  have e0:w≠0:=fun z=>c0 (by rw[z];rfl)
  have e3:w≠3:=fun z=>c3 (by rw[z];rfl)
  have e4:w≠4:=fun z=>c4 (by rw[z];rfl)
  have X:w≠5:=fun z=>c5 (by rw[z];rfl)
  have e7:w≠7:=fun z=>c7 (by rw[z];rfl)
  lia
 exists 4,4,Om,Om,Kb (lo:=0) (n:=Int.toNat (((v.map V.int).length:Nat):Int)) (fun i σ G=>∃(ad ac:Option V) (ws:List V),σ=[some (.ref t),some (.int a),some (.int z),some (.int (((v.map V.int).length:Nat):Int)),some (.int (Xy y i).2),some (.int w),some (.int o1),some (.int o2),some (.int ch),some (.ref g),ad,ac]/\G g=some (.lst ws)/\PairsAre K G ws ((Xy y i).1.map fun p=>(p.1,V.int p.2))/\Same H G) ⟨none,none,[],rfl,h6,.nil,s5.trans a6⟩ ?_ ?_
 .rintro i σ G hi ⟨ad,ac,ws,rfl,Y,D,s7⟩
  have aL:i<v.length:=by rw[lc]at hi;lia
  have lv:=Paired.length D
  rw[jQ]at lv
  have lg:=Qac (Qar y i)
  have am:Xy y (i+1)=(if (Xy y i).2 % 3<2 then(Xy y i).1++[((i:Int),(Xy y i).2 % 3)]else(Xy y i).1,(Xy y i).2 / 3):=rfl
  rw[am]
  clear am
  generalize Xy y i=HT at D lv lg⊢
  obtain⟨hs,C⟩:=HT
  exists 4,_,4,⟨Dc,Dc⟩,fun p hp=>?_
  have x:=Qb hp (.tup [.int (C / 3),.int (C % 3)])
  have h8:upd G p (.tup [.int (C / 3),.int (C % 3)]) p=some (.tup [.int (C / 3),.int (C % 3)]):=upd_same
  generalize upd G p (.tup [.int (C / 3),.int (C % 3)])=H8 at x h8⊢
  exists p,4,Qn h8,rfl,_,4,7,?_
  exists 4,7,4,ite2 (fun c=>?_) (fun c=>?_)
  case refine_2=>
   have c':¬C % 3<2:=fun z=>c (yJ z)
   exists some (.int (0+(i:Int))),some (.int (C % 3)),ws,rfl,x _ _ Y,?_,s7.trans x
   rw[Y20 c']
   exact PairsAre.same x D
  have c':C % 3<2:=yQ c
  exists 4,.inl ⟨rfl,_,Qg (x _ _ Y)⟩,4,4,Z1 2,fun tk ay=>?_
  rw[kJb]
  have U:=Qb ay (.tup [.int (i:Int),.int (C % 3)])
  have I:upd H8 tk (.tup [.int (i:Int),.int (C % 3)]) tk=some (.tup [.int (i:Int),.int (C % 3)]):=upd_same
  generalize upd H8 tk (.tup [.int (i:Int),.int (C % 3)])=H9 at U I⊢
  have ae:=U _ _ (x _ _ Y)
  have aM:ws.length=hs.length:=lv
  have aI:hs.length<=i:=lg
  exists g,7,ae,Om,some (.int (i:Int)),some (.int (C % 3)),ws++[.ref tk],rfl,upd_same,?_,fun b o e=>?_
  .rw[Y22 c',kY]
   exact Paired.snoc (PairsAre.updL ae (PairsAre.same (x.trans U) D)) ⟨tk,rfl,Xv ae (Qn I)⟩
  .rw[Qj (Qi e g0)];exact(x.trans U) _ _ (s7 _ _ e)
 .rintro σ G ⟨ad,ac,ws,rfl,Y,D,s7⟩
  rw[show Int.toNat (((v.map V.int).length:Nat):Int)=v.length by rw[lc];rfl]at D
  exists 4,4,Z1 3,fun u B=>?_
  have x:=Qb B (.tup [.str "shut",.int o1,.ref g])
  exact q u (.sht o1 (Xy y v.length).1) _ (dl6 w6).symm (s7.trans x) ⟨g,ws,g0,Qn upd_same,x _ _ Y,PairsAre.same x D⟩ ⟨⟨oa,Om⟩,Qar _ _⟩
def LinesAt(K:Fg)(H:Hp):List V->List DL->Prop:=Paired fun v ln=>∃u,v=.ref u/\DLAt K H u ln
theorem LinesAt.same{us:List V}{lns:List DL}(h:LinesAt K H us lns)(s:Same H H'):LinesAt K H' us lns:=Paired.mapP h fun _ _ ⟨u,e,z⟩=>⟨u,e,z.same s⟩
def LinesN(K:Fg)(H0 H:Hp):List V->List DL->Prop:=Paired fun v ln=>∃u,v=.ref u/\DLN K H0 H u ln
theorem LinesN.imp{us:List V}{lns:List DL}(h:LinesN K H0 H us lns)(f:∀u ln,DLN K H0 H u ln->DLN K H0 H' u ln):LinesN K H0 H' us lns:=Paired.mapP h fun _ _ ⟨u,e,w⟩=>⟨u,e,f _ _ w⟩
theorem Qfl(n:Nat)(k:Int):numT n (.int k)=if 0<=k/\k<(n:Int)then some k.toNat else none:=rfl
theorem Qtq(a:List Rw)(k:Int):numT a.length (.int k)=if InH a k then some k.toNat else none:=rfl
theorem numT_c(n:Nat)(k:Int):numT n (.int k)=if Cin n k then some k.toNat else none:=rfl
theorem Qpi(h:Good n hs):Je n (.lst (hs.map Jg))=some hs:=by
 have e:allT (Ku n) (hs.map Jg)=some (hs.map id):=Qbl hs fun p g=>by
  obtain⟨a,b,c⟩:=h.ok p g
  obtain⟨x,y⟩:=p
  have f:0<=x:=a
  have d:x<(n:Int):=b
  have i:y=0\/y=1:=c
  show(match numT n (.int x),numT 2 (.int y)with | some a,some b=>some (((a:Nat):Int),((b:Nat):Int)) | _,_=>none)=some (x,y)
  rw[Qfl,Y22 ⟨f,d⟩]
  have ex:((x.toNat:Nat):Int)=x:=Om
  rcases i with z | z<;>subst z
  .show some (((x.toNat:Nat):Int),((0:Nat):Int))=_;rw[ex];rfl
  .show some (((x.toNat:Nat):Int),((1:Nat):Int))=_;rw[ex];rfl
 rw[List.map_id]at e
 show(allT (Ku n) (hs.map Jg)).bind _=_
 rw[e]
 exact Y22 h.nd
theorem Vt{ln:DL}{r:Rw}(h:rowL rs cs best hd ln=some r):∀k∈ln.names,InH hd k:=by
 intro k a
 cases ln with
 |sm ps=>
  by_cases c:Qcu hd ps
  .obtain⟨p,d,rfl⟩:=zJ.mp a
   exact c.2 p d
  .have e:rowL rs cs best hd (.sm ps)=none:=Y20 c
   rw[e]at h;cases h
 |shr o b=>
  rw[kW.mp a]
  exact Classical.byContradiction fun c=>by
   have e:rowL rs cs best hd (.shr o b)=none:=Y20 c
   rw[e]at h;cases h
 |sht o hs=>
  rw[kW.mp a]
  exact Classical.byContradiction fun c=>by
   have e:rowL rs cs best hd (.sht o hs)=none:=Y20 c
   rw[e]at h;cases h
 |eit o p c=>
  have z:InH hd o/\InH hd p/\Cin cs.length c:=Classical.byContradiction fun c=>by
   have e:rowL rs cs best hd (.eit o p _)=none:=Y20 c
   rw[e]at h;cases h
  rcases yK.mp a with e | e
  .rw[e];exact z.1
  .rw[kW.mp e];exact z.2.1
 |giv k=>exact nomatch a
 |low k=>exact nomatch a
 |high k=>exact nomatch a
 |bet=>exact nomatch a
 |no=>exact nomatch a
 |lik t=>exact nomatch a
def DL.ren(f:Int->Int):DL->DL
 |.sm ps=>.sm (ps.map fun p=>(f p.1,p.2))
 |.shr o b=>.shr (f o) b
 |.sht o hs=>.sht (f o) hs
 |.eit o p c=>.eit (f o) (f p) c
 |ln=>ln
theorem Qpj{f:Int->Int}{ln:DL}(h:DLok n ln)(a:∀k∈ln.names,NB (f k)):DLok n (ln.ren f):=by
 cases ln with
 |sm ps=>
  exists by rw[jQ];exact h.1,fun p e=>?_
  obtain⟨q,d,rfl⟩:=zJ.mp e
  exists a _ (zJ.mpr ⟨q,d,rfl⟩),(h.2 q d).2
 |shr o b=>exists a o (kZ ..),h.2
 |sht o hs=>exists a o (kZ ..),h.2
 |eit o p c=>exists a o (kZ ..),a p (yW _ (kZ ..)),h.2.2
 |giv k=>exact h
 |low k=>exact h
 |high k=>exact h
 |bet=>exact h
 |no=>exact h
 |lik t=>exact h
theorem Qip(z:Rw)(k:Int):nmT olds (.int k)=if InH (olds.map (·.getD z)) k then(if (olds.getD k.toNat none).isSome=true then some k.toNat else none)else none:=by
 unfold nmT
 have e:numT olds.length (.int k)=if InH (olds.map (·.getD z)) k then some k.toNat else none:=by
  rw[<-Qtq,jQ]
 rw[e]
 by_cases c:InH (olds.map (·.getD z)) k
 .rw[Y22 c,Y22 c];rfl
 .rw[Y20 c,Y20 c];rfl
theorem Qhl{z:Rw}{k:Nat}(h:(olds.getD k none).isSome=true):rowO olds k=rowK (olds.map (·.getD z)) k:=by
 unfold rowO rowK
 rw[jY]at h⊢
 rw[jY,jZ]
 cases e:olds[k]? with
 |none=>rw[e]at h;cases h
 |some o=>
  rw[e]at h
  cases o with
  |none=>cases h
  |some r=>rfl
abbrev Told(olds:List (Option Rw))(ln:DL):Prop:=∀k∈ln.names,(olds.getD k.toNat none).isSome=true
theorem Jb{α:Type}(o:Option α)(p:Prop)[Decidable p](h:p):(o.bind fun r=>if p then some r else none)=o:=by
 cases o with
 |none=>rfl
 |some r=>exact Y22 h
theorem Jc{α:Type}(o:Option α)(p:Prop)[Decidable p](h:¬p):(o.bind fun r=>if p then some r else none)=none:=by
 cases o with
 |none=>rfl
 |some r=>exact Y20 h
open Classical in
theorem Qfm{ln:DL}(z:Rw)(h:DLok cs.length ln):rowT rs cs best olds (dlD ln)=(rowL rs cs best (olds.map (·.getD z)) ln).bind fun r=>if Told olds ln then some r else none:=by
 have n:ln.names=[]->∀o:Option Rw,(o.bind fun r=>if Told olds ln then some r else none)=o:=fun e o=>Jb o _ fun k a=>by rw[e]at a;cases a
 cases ln with
 |giv k=>
  rw[n rfl]
  refine(Zi rfl).trans ?_
  show(numT rs.length (.int k)).map (rowK rs)=if InH rs k then some (rowK rs k.toNat)else none
  rw[Qtq]
  by_cases c:InH rs k
  .rw[Y22 c,Y22 c];rfl
  .rw[Y20 c,Y20 c];rfl
 |low k=>
  rw[n rfl]
  refine(Zi rfl).trans ?_
  show(numT cs.length (.int k)).map (fun c=>Yk cs.length c 1 0)=if 0<=k/\k<(cs.length:Int)then some (Yk cs.length k.toNat 1 0)else none
  rw[Qfl]
  split<;>rfl
 |high k=>
  rw[n rfl]
  refine(Zi rfl).trans ?_
  show(numT cs.length (.int k)).map (fun c=>Yk cs.length c (-1) (-1))=if 0<=k/\k<(cs.length:Int)then some (Yk cs.length k.toNat (-1) (-1))else none
  rw[Qfl]
  split<;>rfl
 |bet=>rw[n rfl];exact(Zi rfl).trans rfl
 |no=>rfl
 |sm ps=>
  refine(Zi rfl).trans ?_
  show sumD cs.length olds (.lst (ps.map Jg))=(if Qcu (olds.map (·.getD z)) ps then some (Yq cs.length (pI (olds.map (·.getD z)) ps))else none).bind _
  by_cases c:Qcu (olds.map (·.getD z)) ps
  .rw[Y22 c]
   by_cases t:Told olds (.sm ps)
   .rw[Jb _ _ t]
    have e:allT (ptT olds) (ps.map Jg)=some (ps.map fun p=>(p.1.toNat,p.2)):=Qbl ps fun p w=>by
     show(if 0<=p.2 then(nmT olds (.int p.1)).map fun k=>(k,p.2)else none)=_
     rw[Y22 (h.2 p w).2.1,Qip z,Y22 (c.2 p w),Y22 (t p.1 (zJ.mpr ⟨p,w,rfl⟩))];rfl
    cases ps with
    |nil=>exact Y21 rfl c.1
    |cons p r=>
     show(allT (ptT olds) ((p::r).map Jg)).map _=_
     rw[e]
     show some (Yq cs.length (partsOf olds ((p::r).map fun p=>(p.1.toNat,p.2))))=_
     unfold partsOf pI
     rw[jKd]
     have:∀q∈p::r,(rowO olds q.1.toNat,q.2)=(rowK (olds.map (·.getD z)) q.1.toNat,q.2):=fun q d=>by rw[Qhl (z:=z) (t q.1 (zJ.mpr ⟨q,d,rfl⟩))]
     exact congrArg (fun l=>some (Yq cs.length l)) (jJd this)
   .rw[Jc _ _ t]
    obtain⟨k,a⟩:=Classical.not_forall.mp t
    obtain⟨a,F⟩:=Classical.not_imp.mp a
    obtain⟨q,d,rfl⟩:=zJ.mp a
    cases ps with
    |nil=>cases d
    |cons p r=>
     show(allT (ptT olds) ((p::r).map Jg)).map _=_
     rw[Qio (x:=q) d (by
      show(if 0<=q.2 then(nmT olds (.int q.1)).map fun k=>(k,q.2)else none)=_
      rw[Y22 (h.2 q d).2.1,Qip z,Y22 (c.2 q d),Y20 F];rfl)]
     rfl
  .rw[Y20 c]
   cases ps with
   |nil=>rfl
   |cons p r=>
    have:¬∀q∈p::r,InH (olds.map (·.getD z)) q.1:=fun z=>c ⟨fun z=>(nomatch z),z⟩
    obtain⟨q,d⟩:=Classical.not_forall.mp this
    obtain⟨d,G⟩:=Classical.not_imp.mp d
    show(allT (ptT olds) ((p::r).map Jg)).map _=_
    rw[Qio (x:=q) d (by
     show(if 0<=q.2 then(nmT olds (.int q.1)).map fun k=>(k,q.2)else none)=_
     rw[Y22 (h.2 q d).2.1,Qip z,Y20 G];rfl)]
    rfl
 |shr o b=>
  refine(Zi rfl).trans ?_
  show(if 1<=b then(nmT olds (.int o)).bind (fun k=>if divides (rowO olds k) b=true then some (Vp (rowO olds k) b)else none)else none)=(if InH (olds.map (·.getD z)) o then shrR (rowK (olds.map (·.getD z)) o.toNat) b else none).bind _
  rw[Y22 h.2.1,Qip z]
  by_cases c:InH (olds.map (·.getD z)) o
  .rw[Y22 c,Y22 c]
   by_cases t:(olds.getD o.toNat none).isSome=true
   .rw[Y22 t,Jb _ _ (fun k a=>by rw[kW.mp a];exact t),<-Qhl t];rfl
   .rw[Y20 t,Jc _ _ (fun y=>t (y o (kZ ..)))];rfl
  .rw[Y20 c,Y20 c];rfl
 |sht o u=>
  refine(Zi rfl).trans ?_
  show(nmT olds (.int o)).bind (fun k=>(Je cs.length (.lst (u.map Jg))).bind fun u=>if Qaa (rowO olds k) u<(rowO olds k).2 then some (Jw cs.length u)else none)=(if InH (olds.map (·.getD z)) o then shtR cs.length (rowK (olds.map (·.getD z)) o.toNat) u else none).bind _
  rw[Qip z,Qpi h.2]
  by_cases c:InH (olds.map (·.getD z)) o
  .rw[Y22 c,Y22 c]
   by_cases t:(olds.getD o.toNat none).isSome=true
   .rw[Y22 t,Jb _ _ (fun k a=>by rw[kW.mp a];exact t),<-Qhl t];rfl
   .rw[Y20 t,Jc _ _ (fun y=>t (y o (kZ ..)))];rfl
  .rw[Y20 c,Y20 c];rfl
 |eit o p c=>
  refine(Zi rfl).trans ?_
  show(nmT olds (.int o)).bind (fun i=>(nmT olds (.int p)).bind fun j=>(numT cs.length (.int c)).bind fun c=>if Xi (rowO olds i).1 c=Xi (rowO olds j).1 c then some (Ke (rowO olds i) (rowO olds j) c)else none)=(if InH (olds.map (·.getD z)) o/\InH (olds.map (·.getD z)) p/\Cin cs.length c then eitR (rowK (olds.map (·.getD z)) o.toNat) (rowK (olds.map (·.getD z)) p.toNat) c.toNat else none).bind _
  rw[Qip z,Qip z,numT_c]
  by_cases f:InH (olds.map (·.getD z)) o
  .by_cases s:InH (olds.map (·.getD z)) p
   .by_cases v:Cin cs.length c
    .rw[Y22 f,Y22 s,Y22 v,Y22 (show InH (olds.map (·.getD z)) o/\InH (olds.map (·.getD z)) p/\Cin cs.length c from⟨f,s,v⟩)]
     by_cases g:(olds.getD o.toNat none).isSome=true
     .by_cases m:(olds.getD p.toNat none).isSome=true
      .rw[Y22 g,Y22 m,Jb _ _ (fun k a=>by
        rcases yK.mp a with e | e
        .rw[e];exact g
        .rw[kW.mp e];exact m),<-Qhl g,<-Qhl m];rfl
      .rw[Y22 g,Y20 m,Jc _ _ (fun y=>m (y p (yW _ (kZ ..))))];rfl
     .rw[Y20 g,Jc _ _ (fun y=>g (y o (kZ ..)))];rfl
    .refine Eq.trans ?_ (congrArg (fun o=>Option.bind o _) (Y20 fun z=>v z.2.2)).symm
     rw[Y22 f,Y22 s,Y20 v]
     cases(if (olds.getD o.toNat none).isSome=true then some o.toNat else none)<;>cases(if (olds.getD p.toNat none).isSome=true then some p.toNat else none)<;>rfl
   .refine Eq.trans ?_ (congrArg (fun o=>Option.bind o _) (Y20 fun z=>s z.2.1)).symm
    rw[Y22 f,Y20 s]
    cases(if (olds.getD o.toNat none).isSome=true then some o.toNat else none)<;>rfl
  .refine Eq.trans ?_ (congrArg (fun o=>Option.bind o _) (Y20 fun z=>f z.1)).symm
   rw[Y20 f];rfl
 |lik t=>
  rw[n rfl]
  refine(Zi rfl).trans ?_
  obtain⟨C,D,T⟩:=h
  show(Ww cs.length (.lst ((tI t).map .int))).bind _=if t.length=cs.length/\Ks rs cs t cs.length then some (Vj t)else none
  by_cases A:C=cs.length
  .subst A
   have e:Ww cs.length (.lst ((tI t).map .int))=some t:=by
    have B:allT (numT cs.length) ((tI t).map .int)=some (t.map id):=by
     unfold tI
     rw[jKd]
     exact Qbl t fun k a=>by
      show numT cs.length (.int (k:Int))=_
      have:=T.mem.mp a
      rw[Qfl,Y22 ⟨Om,Om⟩];rfl
    rw[List.map_id]at B
    show(allT (numT cs.length) _).bind _=_
    rw[B]
    exact Y22 ⟨T.nodup,T.length⟩
   rw[e]
   show(if Ks rs cs t cs.length then some (Vj t)else none)=_
   by_cases k:Ks rs cs t cs.length
   .rw[Y22 k,Y22 ⟨T.length,k⟩]
   .rw[Y20 k,Y20 fun z=>k z.2]
  .have e:Ww cs.length (.lst ((tI t).map .int))=none:=by
    show(allT (numT cs.length) ((tI t).map .int)).bind _=_
    cases E:allT (numT cs.length) ((tI t).map .int)with
    |none=>rfl
    |some xs=>
     have:=(Jl E).1
     rw[jQ,Vd,T.length]at this
     exact Y20 fun z=>A Om
   rw[e,Y20 fun z=>A (by rw[<-T.length];exact z.1)]
   rfl
theorem Qbm{ln:DL}(h:DLok cs.length ln):rowT rs cs best (hd.map some) (dlD ln)=rowL rs cs best hd ln:=by
 rw[Qfm ([],0) h]
 have e:(hd.map some).map (·.getD ([],0))=hd:=by rw[jKd];exact List.map_id _
 rw[e]
 cases c:rowL rs cs best hd ln with
 |none=>rfl
 |some r=>
  refine Y22 fun k a=>?_
  obtain⟨d,b⟩:=Vt c k a
  rw[jY,jZ,gE (show k.toNat<hd.length by lia)];rfl
theorem Qkh{ln:DL}{r:Rw}(c:∀r∈rs,r.1.length=cs.length)(b:∀r∈hd,r.1.length=cs.length)(o:DLok cs.length ln)(h:rowL rs cs best hd ln=some r):r.1.length=cs.length:=by
 rw[<-Qbm o]at h
 exact Qkg c (fun r a=>by obtain⟨d,h,e⟩:=zJ.mp a;cases e;exact b _ h) h
theorem Qiq{f:Int->Int}{hd':List Rw}{ln:DL}(h:∀k∈ln.names,InH hd k/\InH hd' (f k)/\rowK hd' (f k).toNat=rowK hd k.toNat):rowL rs cs best hd' (ln.ren f)=rowL rs cs best hd ln:=by
 cases ln with
 |sm ps=>
  have j:∀p∈ps,p.1∈(DL.sm ps).names:=fun p d=>zJ.mpr ⟨p,d,rfl⟩
  have r:pI hd' (ps.map fun p=>(f p.1,p.2))=pI hd ps:=by
   unfold pI
   rw[jKd]
   refine jJd fun p d=>?_
   show(rowK hd' (f p.1).toNat,p.2)=(rowK hd p.1.toNat,p.2)
   rw[(h p.1 (j p d)).2.2]
  show(if Qcu hd' (ps.map fun p=>(f p.1,p.2))then some (Yq cs.length (pI hd' (ps.map fun p=>(f p.1,p.2))))else none)=if Qcu hd ps then some (Yq cs.length (pI hd ps))else none
  rw[r]
  have c:Qcu hd' (ps.map fun p=>(f p.1,p.2))↔Qcu hd ps:=⟨fun z=>⟨fun y=>z.1 (by rw[y];rfl),fun p d=>(h p.1 (j p d)).1⟩,fun z=>⟨fun y=>z.1 (List.map_eq_nil_iff.mp y),fun p d=>by
   obtain⟨q,n,rfl⟩:=zJ.mp d
   exact(h q.1 (j q n)).2.1⟩⟩
  by_cases a:Qcu hd ps
  .rw[Y22 a,Y22 (c.mpr a)]
  .rw[Y20 a,Y20 fun z=>a (c.mp z)]
 |shr o b=>
  obtain⟨i,e,g⟩:=h o (kZ ..)
  show(if InH hd' (f o)then shrR (rowK hd' (f o).toNat) b else none)=if InH hd o then shrR (rowK hd o.toNat) b else none
  rw[Y22 e,Y22 i,g]
 |sht o hs=>
  obtain⟨i,e,g⟩:=h o (kZ ..)
  show(if InH hd' (f o)then shtR cs.length (rowK hd' (f o).toNat) hs else none)=if InH hd o then shtR cs.length (rowK hd o.toNat) hs else none
  rw[Y22 e,Y22 i,g]
 |eit o p c=>
  obtain⟨i,e,g⟩:=h o (kZ ..)
  obtain⟨m,l,s⟩:=h p (yW _ (kZ ..))
  show(if InH hd' (f o)/\InH hd' (f p)/\Cin cs.length c then eitR (rowK hd' (f o).toNat) (rowK hd' (f p).toNat) c.toNat else none)=if InH hd o/\InH hd p/\Cin cs.length c then eitR (rowK hd o.toNat) (rowK hd p.toNat) c.toNat else none
  rw[g,s]
  by_cases a:Cin cs.length c
  .rw[Y22 ⟨e,l,a⟩,Y22 ⟨i,m,a⟩]
  .rw[Y20 fun z=>a z.2.2,Y20 fun z=>a z.2.2]
 |giv k=>rfl
 |low k=>rfl
 |high k=>rfl
 |bet=>rfl
 |no=>rfl
 |lik t=>rfl
theorem Wg{u:Addr}{ln:DL}(h:DLAt K H u ln):HasT K H (.ref u) (dlD ln):=by
 cases ln with
 |giv k=>exact tupT h (.cons (.str _) (.cons (.int _) .nil))
 |low k=>exact tupT h (.cons (.str _) (.cons (.int _) .nil))
 |high k=>exact tupT h (.cons (.str _) (.cons (.int _) .nil))
 |bet=>exact tupT h (.cons (.str _) .nil)
 |no=>exact tupT h (.cons (.str _) .nil)
 |sm ps=>obtain⟨l,d,f,a,e⟩:=h;exact tupT d (.cons (.str _) (.cons (Qoz a e) .nil))
 |shr o b=>exact tupT h (.cons (.str _) (.cons (.int _) (.cons (.int _) .nil)))
 |sht o hs=>obtain⟨l,d,f,a,e⟩:=h;exact tupT d (.cons (.str _) (.cons (.int _) (.cons (Qoz a e) .nil)))
 |eit o p c=>exact tupT h (.cons (.str _) (.cons (.int _) (.cons (.int _) (.cons (.int _) .nil))))
 |lik t=>obtain⟨l,d,a⟩:=h;exact tupT d (.cons (.str _) (.cons (lstT a (.ints _)) .nil))
theorem Ka{k:Int}(h:NB k):Sm (.int k):=.int _ (by have:=h.1;lia) (by have:=h.2;lia)
theorem Qir{ln:DL}(m:n<=20)(h:DLok n ln):Sm (dlD ln):=by
 cases ln with
 |giv k=>exact .tup _ (Xd (.str _) (Xd (Ka h) Zl))
 |low k=>exact .tup _ (Xd (.str _) (Xd (Ka h) Zl))
 |high k=>exact .tup _ (Xd (.str _) (Xd (Ka h) Zl))
 |bet=>exact .tup _ (Xd (.str _) Zl)
 |no=>exact .tup _ (Xd (.str _) Zl)
 |sm ps=>
  refine .tup _ (Xd (.str _) (Xd (.lst _ (by rw[jQ];have:=h.1;lia) fun x d=>?_) Zl))
  obtain⟨p,e,rfl⟩:=zJ.mp d
  obtain⟨a,b,c⟩:=h.2 p e
  exact .tup _ (Xd (Ka a) (Xd (Ka ⟨b,Om⟩) Zl))
 |shr o b=>exact .tup _ (Xd (.str _) (Xd (Ka h.1) (Xd (Ka ⟨by have:=h.2.1;lia,by have:=h.2.2;lia⟩) Zl)))
 |sht o hs=>
  have l:=Qac h.2
  refine .tup _ (Xd (.str _) (Xd (Ka h.1) (Xd (.lst _ (by rw[jQ];lia) fun x d=>?_) Zl)))
  obtain⟨p,e,rfl⟩:=zJ.mp d
  obtain⟨a,b,c⟩:=h.2.ok p e
  exact .tup _ (Xd (Ka ⟨a,Om⟩) (Xd (Ka ⟨Om,Om⟩) Zl))
 |eit o p c=>exact .tup _ (Xd (.str _) (Xd (Ka h.1) (Xd (Ka h.2.1) (Xd (Ka h.2.2) Zl))))
 |lik t=>
  obtain⟨j,f,T⟩:=h
  refine .tup _ (Xd (.str _) (Xd (.lst _ (by rw[jQ,Vd,T.length];lia) fun x d=>?_) Zl))
  obtain⟨y,i,rfl⟩:=zJ.mp d
  obtain⟨k,g,rfl⟩:=zJ.mp (show y∈t.map fun(k:Nat)=>(k:Int)from i)
  have:=T.mem.mp g
  exact Ka ⟨Om,Om⟩
inductive Right (rs:List Rw) (cs:List Int) (best:Option Int):List DL->List Rw->Prop
 |nil:Right rs cs best [] []
 |snoc {lns:List DL} {hd:List Rw} {ln:DL} {r:Rw}:Right rs cs best lns hd->DLok cs.length ln->rowL rs cs best hd ln=some r->Right rs cs best (lns++[ln]) (hd++[r])
section
variable{lns:List DL}
theorem Right.length(h:Right rs cs best lns hd):hd.length=lns.length:=by
 induction h with
 |nil=>rfl
 |snoc _ _ _ ih=>rw[jV,jV,ih];rfl
theorem Right.at(h:Right rs cs best lns hd):∀{i:Nat} {ln:DL},lns[i]?=some ln->DLok cs.length ln/\∃r,hd[i]?=some r/\rowL rs cs best (hd.take i) ln=some r:=by
 induction h with
 |nil=>intro i l e;cases e
 |@snoc ls hd l' r' h0 ho ht ih=>
  intro i l e
  have a:=h0.length
  by_cases c:i<ls.length
  .rw[xW c]at e
   obtain⟨o,r,b,f⟩:=ih e
   exists o,r,by rw[xW Om];exact b,?_
   rw[List.take_append_of_le_length Om]
   exact f
  .have d:=(jW.mp e).1
   rw[jV]at d
   have j:([l']:List DL).length=1:=rfl
   have g:i=ls.length:=Om
   subst g
   rw[xJ (jJ _),jKe]at e
   cases e
   exists ho,r',by rw[<-a,xJ (jJ _),jKe];rfl,?_
   rw[<-a,List.take_left']
   .exact ht
   .rfl
theorem Right.len(h:Right rs cs best lns hd)(a:∀r∈rs,r.1.length=cs.length):∀r∈hd,r.1.length=cs.length:=by
 induction h with
 |nil=>intro r z;cases z
 |snoc h0 ho ht ih=>
  intro r z
  rcases xK.mp z with y | y
  .exact ih r y
  .rw[kW.mp y];exact Qkh a ih ho ht
theorem Right.ok(h:Right rs cs best lns hd):∀ln∈lns,DLok cs.length ln:=fun ln a=>by
 obtain⟨i,b,e⟩:=jJb.mp a
 exact(h.at (jW.mpr ⟨b,e⟩)).1
end
end Nb
variable{ln:Nb.DL}{lns:List Nb.DL}
namespace L2
open PySem PySem.Spec PyProof.Rows PySem.SeqAt
abbrev Rw2:=List Int×Int
def IsRowKey(prog:Program)(w:World)(h:Heap)(r:Rw2)(a:Addr):Prop:=∃o items n p v,h.get? a=some o/\o.cls=.type "tuple"/\o.data=.seq items n/\items.toList=[.ref p,v]/\(intKind prog w).is r.2 v=true/\IsTupleKey (intKind prog w) h r.1 p
theorem IsRowKey.typeIs{r:Rw2}(x:IsRowKey prog w s.heap r a):s.TypeIs (.ref a) "tuple":=by obtain⟨o,_,_,_,_,c,b,_⟩:=x;exists o,c,b
theorem IsRowKey.inj{x y:Rw2}(z:IsRowKey prog w h x a)(u:IsRowKey prog w h y a):x=y:=by
 obtain⟨o,e,n,p,v,r,_,q,m,hv,s⟩:=z
 obtain⟨l,d,C,B,A,j,_,b,c,f,k⟩:=u
 obtain rfl:o=l:=Y5 (r.symm.trans j)
 rw[q]at b
 injection b with t _
 subst t
 rw[m]at c
 injection c with g i
 injection g with g
 injection i with i
 subst g i
 exact Prod.ext (s.inj k) ((intKind prog w).inj _ _ _ hv f)
theorem IsRowKey.keeps{r:Rw2}{d:Addr}{o:Obj}{es ep}(x:IsRowKey prog w h r a)(k:h.get? d=some o)(i:o.data=.dict es ep)(j:Heap.SameBut d h h'):IsRowKey prog w h' r a:=by
 obtain⟨g,c,n,p,v,e,l,b,q,hv,m⟩:=x
 have f:a≠d:=by
  rintro rfl
  obtain rfl:g=o:=Y5 (e.symm.trans k)
  rw[i]at b;exact nomatch b
 exists g,c,n,p,v,(j.2 a f).trans e,l,b,q,hv,m.keeps k i j
def Qis(prog:Program)(w:World)(r:Rw2):Int:=reduceHash (Builtin.Tuple.tupleHashOf [tupleKeyHash (intKind prog w) r.1,(intKind prog w).hash r.2])
theorem Qbc{r:Rw2}{Q:Int->Shared->Prop}(q:A.units+1<cLine)(k:IsRowKey prog w s.heap r a)(h:Q (Qis prog w r) { s with toks:=s.toks+(r.1.length+3) }) :
  qe prog w A (pyHash (.ref a)) Q E s:=by
 have i:=k.typeIs
 obtain⟨o,j,n,p,v,u,_,t,m,hv,l⟩:=k
 unfold pyHash
 first | unfold pyHashByItsType | skip
 first | refine jX (wpAny_cRoomFor_or (.inr Om) ?_) | skip
 refine jX (wpAny_specialOf i F.slot_tuple_hash.lookup ?_)
 show wpAny _ _ (if (some (Value.builtin "tuple.__hash__") == some Value.none)=true then _ else _) Q E s
 rw[Y20 (by rw[beq_builtin_none];exact yX)]
 refine jX (wpAny_specialOf i F.slot_tuple_hash.lookup ?_)
 show wpAny _ _ (callSpecialIfBoundUnlessNone? (.ref a) "__hash__" _ >>= _) Q E s
 refine jX (wpAny_callSpecialIfBoundUnlessNone?_slot i F.slot_tuple_hash (Y25 F.slot_tuple_hash i F.entry_tuple_hash ?_ (F.args_tuple_hash_1 _)))
 show wpAny _ _ (Builtin.Tuple.tupleItemsOf (.ref a) >>= _) _ _ s
 refine jX (wpAny_tupleItemsOf u t ?_)
 refine jX ?_
 rw[<-Array.forIn_toList,m]
 refine wpAny_forIn_list _
  (fun c (b:Array Int) f=>(c=[.ref p,v]/\b.toList=[]/\f=s)\/(c=[v]/\b.toList=[tupleKeyHash (intKind prog w) r.1]/\f={ s with toks:=s.toks+(r.1.length+1) })\/(c=[]/\b.toList=[tupleKeyHash (intKind prog w) r.1,(intKind prog w).hash r.2]/\f={ s with toks:=s.toks+(r.1.length+1)+1 }))
  _ ?_ ?_ _ _ (.inl ⟨rfl,rfl,rfl⟩)
 .rintro x c b f (⟨e,d,rfl⟩ | ⟨e,d,rfl⟩ | ⟨e,_⟩)
  .cases e
   refine jX (wpAny_pyHash_tuple (knd:=intKind prog w) (by show A.units+1<cLine;exact q) l ?_)
   first
    |exact kQ (.inr (.inl ⟨rfl,by simp[d],rfl⟩))
    |exact jX (kQ (kQ (.inr (.inl ⟨rfl,by simp[d],rfl⟩))))
  .cases e
   refine jX ((intKind prog w).pyHash hv ?_)
   first
    |exact kQ (.inr (.inr ⟨rfl,by simp[d],rfl⟩))
    |exact jX (kQ (kQ (.inr (.inr ⟨rfl,by simp[d],rfl⟩))))
  .cases e
 .rintro b f (⟨e,d,rfl⟩ | ⟨e,d,rfl⟩ | ⟨e,d,rfl⟩)
  .cases e
  .cases e
  show wpAny _ _ (retInt (Builtin.Tuple.tupleHashOf b.toList)) _ _ _
  rw[d]
  refine wpAny_ret_mkInt ?_
  show wpAny _ _ (if (decide (-(2:Int) ^ 63<=Builtin.Tuple.tupleHashOf _)&&decide (Builtin.Tuple.tupleHashOf _<2 ^ 63))=true then _ else _) Q E _
  unfold Qis reduceHash at h
  generalize Builtin.Tuple.tupleHashOf [tupleKeyHash (intKind prog w) r.1,(intKind prog w).hash r.2]=T at h⊢
  by_cases g:(decide (-(2:Int) ^ 63<=T)&&decide (T<2 ^ 63))=true
  .rw[Y22 g]
   rw[Y22 g]at h
   exact kQ (by simpa[Nat.add_assoc]using h)
  .rw[Y20 g]
   rw[Y20 g]at h
   exact jX (wpAny_rule (kQ (by simpa[Nat.add_assoc]using h)))
theorem Qit{x y:Rw2}{P:PySem.Fin->Shared->Prop}(K:A.units<cLine)(M:IsRowKey prog w s.heap x a)(G:IsRowKey prog w s.heap y b)(h:P (.done (.ret (.bool (decide (x=y))))) s) :
  qe prog w A (Builtin.«tuple.__eq__» ⟨[.ref a,.ref b],[]⟩) P E s:=by
 have t:=G.typeIs
 obtain⟨S,D,O,I,B,k,_,p,f,n,m⟩:=M
 obtain⟨Q,F,nb,L,C,hob,_,o,g,q,j⟩:=G
 show wpAny _ _ (isInstance (.ref b) (.type "tuple") >>= _) _ _ s
 refine jX (wpAny_isInstance t isSubtype_tuple_tuple ?_)
 simp only[kQa,wV,if_false]
 refine jX (wpAny_tupleItemsOf k p ?_)
 refine jX (wpAny_tupleItemsOf hob o ?_)
 refine jX ?_
 rw[f,g]
 refine wpAny_forIn_list _
  (fun c r i=>r.1=none/\i=s/\(c=[(Value.ref I,Value.ref L),(B,C)]\/(c=[(B,C)]/\x.1=y.1)\/(c=[]/\x=y)))
  _ ?_ ?_ _ _ ⟨rfl,rfl,.inl rfl⟩
 .rintro⟨u,v⟩ c r i ⟨l,rfl,e | ⟨e,J⟩ | ⟨e,_⟩⟩
  .cases e
   refine jX (wpAny_eqBool_tuple (knd:=intKind prog w) K m j ?_)
   by_cases d:x.1=y.1
   .rw[yJ d]
    simp only[kQa,wV,if_false]
    exact kQ ⟨rfl,rfl,.inr (.inl ⟨trivial,d⟩)⟩
   .rw[yV d]
    simp only[Bool.not_false,if_true]
    rw[yV (fun z=>d (by rw[z]))]at h
    exact jX (kQ (kQ (kQ h)))
  .cases e
   refine jX ((intKind prog w).eqBool (a:=x.2) (b:=y.2) n q ?_)
   by_cases d:x.2=y.2
   .rw[yJ d]
    simp only[kQa,wV,if_false]
    exact kQ ⟨rfl,rfl,.inr (.inr ⟨trivial,Prod.ext J d⟩)⟩
   .rw[yV d]
    simp only[Bool.not_false,if_true]
    rw[yV (fun z=>d (by rw[z]))]at h
    exact jX (kQ (kQ (kQ h)))
  .cases e
 .rintro⟨R,N⟩ i ⟨l,rfl,e | ⟨e,_⟩ | ⟨_,e⟩⟩
  .cases e
  .cases e
  simp only at l
  subst l
  refine kQ ?_
  have H:(D.size == F.size)=true:=by
   rw[<-jQe,<-jQe,f,g];rfl
  show P (.done (.ret (.bool (D.size == F.size)))) i
  rw[H]
  rw[yJ e]at h
  exact h
theorem Qbd{x y:Rw2}{Q:Bool->Shared->Prop}(g:A.units+1<cLine)(d:IsRowKey prog w s.heap x a)(f:IsRowKey prog w s.heap y b)(h:Q (decide (x=y)) s) :
  qe prog w A (eqBool (.ref a) (.ref b)) Q E s:=by
 unfold eqBool
 try with_reducible refine Y30 ?_
 show wpAny _ _ (if (Value.ref a == Value.ref b)=true then _ else _) Q E s
 by_cases c:(Value.ref a == Value.ref b)=true
 .rw[Y22 c]
  have e:a=b:=by have:=eq_of_beq c;injection this
  subst e
  obtain rfl:=d.inj f
  exact jX (wpAny_rule (kQ (by simpa using h)))
 .rw[Y20 c]
  exact jX (wpAny_richCompare_same_room (op:=.Eq) d.typeIs f.typeIs F.slot_tuple_eq
   (Y25 F.slot_tuple_eq d.typeIs F.entry_tuple_eq (Qit (by show A.units+1<cLine;exact g) d f ⟨_,rfl,(fun e=>nomatch e),Y31 h⟩) (F.args_tuple_eq_2 _ _)) Om)
theorem Qhm{ks:List Int}{Q:Bool->Shared->Prop}(i:IsTupleKey (intKind prog w) s.heap ks a)(h:Q true s):qe prog w A (eqIsQuiet 7 (.ref a)) Q E s:=by
 have j:=i.typeIs
 obtain⟨o,d,n,m,_,l,k⟩:=i
 unfold eqIsQuiet
 refine jX (wpAny_specialOf j F.slot_tuple_eq.lookup ?_)
 show wpAny _ _ (isInstance (.ref a) (.type "tuple") >>= _) _ _ s
 refine jX (wpAny_isInstance j isSubtype_tuple_tuple ?_)
 simp only[kQa,wV,if_false]
 refine jX (wpAny_seqItems m l ?_)
 refine jX ?_
 show wpAny _ _ (forIn d _ _) _ _ s
 rw[<-Array.forIn_toList]
 refine wpAny_forIn_list _ (fun b r g=>r.1=none/\g=s/\∀v∈b,carriedByValue v=true) _ ?_ ?_ _ _ ⟨rfl,rfl,k.byValue⟩
 .rintro v b r g ⟨f,rfl,c⟩
  rw[eqIsQuiet_byValue _ (c v kZ)]
  refine jX (kQ ?_)
  simp only[kQa,wV,if_false]
  exact kQ ⟨rfl,rfl,fun u e=>c u (yW _ e)⟩
 .rintro⟨q,p⟩ g ⟨f,rfl,_⟩
  simp only at f
  subst f
  exact kQ h
theorem Qcy{r:Rw2}{Q:Bool->Shared->Prop}(g:IsRowKey prog w s.heap r a)(h:Q true s):qe prog w A (eqIsQuiet 8 (.ref a)) Q E s:=by
 have i:=g.typeIs
 obtain⟨o,c,n,p,v,m,_,l,k,hv,j⟩:=g
 unfold eqIsQuiet
 refine jX (wpAny_specialOf i F.slot_tuple_eq.lookup ?_)
 show wpAny _ _ (isInstance (.ref a) (.type "tuple") >>= _) _ _ s
 refine jX (wpAny_isInstance i isSubtype_tuple_tuple ?_)
 simp only[kQa,wV,if_false]
 refine jX (wpAny_seqItems m l ?_)
 refine jX ?_
 show wpAny _ _ (forIn c _ _) _ _ s
 rw[<-Array.forIn_toList,k]
 refine wpAny_forIn_list _ (fun b q f=>q.1=none/\f=s/\(b=[.ref p,v]\/b=[v]\/b=[])) _ ?_ ?_ _ _ ⟨rfl,rfl,.inl rfl⟩
 .rintro u b q f ⟨d,rfl,e | e | e⟩
  .cases e
   refine jX (Qhm j ?_)
   simp only[kQa,wV,if_false]
   exact kQ ⟨rfl,rfl,.inr (.inl trivial)⟩
  .cases e
   rw[eqIsQuiet_byValue _ ((intKind prog w).byValue _ _ hv)]
   refine jX (kQ ?_)
   simp only[kQa,wV,if_false]
   exact kQ ⟨rfl,rfl,.inr (.inr trivial)⟩
  .cases e
 .rintro⟨x,t⟩ f ⟨d,rfl,_⟩
  simp only at d
  subst d
  exact kQ h
def Vk(prog:Program)(w:World):HeapKind prog w Rw2 where
 is:=IsRowKey prog w
 hash:=Qis prog w
 draws:=fun r=>r.1.length+3
 room:=fun A=>A.units+1<cLine
 inj:=fun hx hy=>hx.inj hy
 keeps:=fun x ho hd hs=>x.keeps ho hd hs
 pyHash:=fun hu hk h=>Qbc hu hk h
 eqBool:=fun hu hx hy h=>Qbd hu hx hy h
 quiet:=fun hk h=>Qcy hk h
abbrev KR(K:Fg)(H:Hp):List (Rw2×V)->List (Rw2×Addr×Value)->Prop:=Paired fun p q=>p.1=q.1/\Nb.RowAt K H q.2.1 p.1/\RelV p.2 q.2.2
section
variable{kvs:List (Rw2×V)}{xs:List (Rw2×Addr×Value)}
theorem KR.val(r:KR K H kvs xs)(k:Rw2):RelO (valV kvs k) ((atKey xs k).map (·.2)):=by
 induction r with
 |nil=>exact True.intro
 |@cons p q ps qs h t ih=>
  obtain⟨c,_,d⟩:=h
  by_cases e:p.1=k
  .have a:q.1=k:=c.symm.trans e
   have b:atKey (q::qs) k=some q.2:=by simp[atKey,jZe,a]
   rw[Ze e,b];exact d
  .have a:¬q.1=k:=fun z=>e (c.trans z)
   have b:atKey (q::qs) k=atKey qs k:=by simp[atKey,jZe,a]
   rw[Zf e,b];exact ih
theorem KR.repl(r:KR K H kvs xs)(k:Rw2)(c:RelV y u):KR K H (kvs.map fun kv=>if kv.1=k then(kv.1,y)else kv) (xs.map (putAt k u)):=by
 induction r with
 |nil=>exact .nil
 |@cons p q ps qs h t ih=>
  rw[xX,xX]
  refine .cons ?_ ih
  obtain⟨a,b,d⟩:=h
  unfold putAt
  by_cases e:p.1=k
  .rw[Y22 e,Y22 (a.symm.trans e)];exists a,b,c
  .rw[Y20 e,Y20 (fun z=>e (a.trans z))];exists a,b,d
theorem KR.put(r:KR K H kvs xs)(k:Rw2)(d:Nb.RowAt K H b k)(a:RelV y u):KR K H (putK kvs k y) (storedH xs k b u):=by
 have e:(kvs.any fun c=>decide (c.1=k))=(atKey xs k).isSome:=by
  rw[Vo,(r.val k).isSome_eq,Option.isSome_map]
 unfold putK storedH
 rw[e]
 by_cases q:(atKey xs k).isSome=true
 .rw[Y22 q,Y22 q];exact r.repl k a
 .rw[Y20 q,Y20 q];exact Paired.snoc r ⟨rfl,d,a⟩
theorem KR.imp(r:KR K H kvs xs)(f:∀t q,Nb.RowAt K H t q->Nb.RowAt K H' t q):KR K H' kvs xs:=Paired.mapP r fun _ _ z=>⟨z.1,f _ _ z.2.1,z.2.2⟩
theorem KR.keys(r:KR K H kvs xs):xs.map (·.1)=kvs.map (·.1):=by
 induction r with
 |nil=>rfl
 |cons z _ ih=>rw[xX,xX,ih,z.1]
end
def RDo(d:Addr)(o:Obj):HO:=.ext fun h=>h.get? d=some o
structure RD(P:Program)(w:World)(K:Fg)(H:Hp)(d:Addr)(kvs:List (Rw2×V)):Prop where
 ex:∃(o:Obj) (es:Array DictEntry) (ep:Nat) (xs:List (Rw2×Addr×Value)),H d=some (RDo d o)/\o.ExactDict/\o.data=.dict es ep/\es.toList=xs.map (entryOfKey (Vk P w))/\KR K H kvs xs
 sys:(d == sysModules)=false
 len:kvs.length<=sizeLine
 nd:(kvs.map (·.1)).Nodup
theorem RD.keep{d:Addr}{kvs:List (Rw2×V)}(r:RD P w K H d kvs)(e:H' d=H d)(f:∀t q,Nb.RowAt K H t q->Nb.RowAt K H' t q):RD P w K H' d kvs:=by
 obtain⟨⟨o,h,g,j,l,k,m,n,i⟩,a,b,c⟩:=r
 exists ⟨o,h,g,j,by rw[e];exact l,k,m,n,i.imp f⟩,a,b,c
theorem RD.same{d:Addr}{kvs:List (Rw2×V)}(r:RD P w K H d kvs)(s:Same H H'):RD P w K H' d kvs:=by
 obtain⟨o,e,c,b,a,_⟩:=r.ex
 exact r.keep (by rw[s _ _ a,a]) fun _ _ z=>z.same s
theorem RD.updL{d:Addr}{kvs:List (Rw2×V)}(r:RD P w K H d kvs)(a:H g=some (.lst xs)):RD P w K (upd H g (.lst ys)) d kvs:=by
 obtain⟨o,e,c,f,b,_⟩:=r.ex
 exact r.keep (Qj (Kt b a (by intro z;cases z))) fun _ _ z=>z.upd a
section
variable{kvs:List (Rw2×V)}{k:Rw2}
theorem Qki{P:Program}{w:World}:∀{ks:List Int} {us:List Value},Vals (ks.map V.int) us->ItemsAre (intKind P w) ks us
 |[],_,r=>by rw[kYa]at r;cases r;exact .nil
 |k::ks,_,r=>by
  rw[xX]at r
  cases r with
  |cons h t=>obtain⟨a,rfl⟩:=h;exact .cons (by simp[intKind,Value.isInt]) (Qki t)
theorem Qas(I:qI H s)(h:Nb.RowAt X.K H b k):(Vk X.prog X.w).is s.heap k b:=by
 obtain⟨p,q,m⟩:=h
 obtain⟨t,g,⟨o,i,r,n,u⟩,_⟩:=I.tuple q
 obtain⟨e,c,⟨x,j,f,l,v⟩,_⟩:=I.tuple m
 obtain⟨z,A,rfl,d,a⟩:=g.two
 cases d
 obtain⟨y,rfl⟩:=a
 exists o,_,n,p,_,i,r,u,rfl,by simp[intKind,Value.isInt],⟨x,_,l,j,f,v,by simpa using Qki c⟩
theorem Qat(I:qI H s)(r:RD X.prog X.w X.K H a kvs):∃xs,KR X.K H kvs xs/\s.heap.DictOfH (Vk X.prog X.w) a xs:=by
 obtain⟨o,d,c,xs,g,f,h,i,b⟩:=r.ex
 obtain⟨j,_⟩:=(show ObjOk X.prog X.w H s.heap a (RDo a o)from I.hok a _ g)
 exists xs,b,o,d,c,j,f,h,i,?_,by rw[b.keys];exact r.nd
 have all:∀{l:List (Rw2×V)} {m:List (Rw2×Addr×Value)},KR X.K H l m->∀x∈m,(Vk X.prog X.w).is s.heap x.1 x.2.1:=by
  intro l m q
  induction q with
  |nil=>intro x hx;exact nomatch hx
  |@cons p q ps qs hq t ih=>
   intro x hx
   rcases yK.mp hx with e | hx
   .subst e
    exact Qas I (by rw[<-hq.1];exact hq.2.1)
   .exact ih x hx
 exact fun x hx=>all b x hx
theorem rd_at(I:qI H s)(r:RD X.prog X.w X.K H a kvs):s.TypeIs (.ref a) "dict"/\(∀b,Value.ref a=.ref b->∃ob,s.heap.get? b=some ob/\ob.dict=none)/\(a == sysModules)=false:=by
 obtain⟨f,_,c⟩:=Qat I r
 exists c.typeIs,fun b q=>?_,r.sys
 cases q
 obtain⟨ob,_,_,e,d,_⟩:=c
 exists ob,e,d.2.1
theorem Qad(a:A.units+2<cLine):(Vk X.prog X.w).room A.in1:=by show A.units+1+1<cLine;lia
end
section
variable{o f:Expr}{apos cpos:Pos}{td ty:TE}
def tRNew(P:Program)(w:World)(K:Fg):TE:=fun _ H Q=>∀p ob,H p=none->RD P w K (upd H p ob) p []->Q (.ref p) (upd H p ob)
theorem Qpk:PE X (.Dict [] [] pos) (tRNew X.prog X.w X.K):=fun b s g H Q I h=>by
 refine wpAny_Dict_empty ⟨.ref (qa s),_,I.laid (a:=(qa s)) (o:=RDo (qa s) { cls:=.type "dict",data:=.dict #[] }) (t':=s.toks) (fun _ _ q=>jK _ q) (jJ _) ⟨yZ _ rfl,⟨_,yZ _ rfl⟩,fun f e c d=>d _ c⟩,rfl,h _ _ (I.hok.fresh (jJ _)) ?_⟩
 exists ⟨_,#[],0,[],upd_same,⟨rfl,rfl,rfl⟩,rfl,rfl,.nil⟩,beq_eq_false_iff_ne.mpr (Ne.symm (xQ I.big)),jZb _,kKd
def tRGet1(P:Program)(w:World)(K:Fg)(td ty:TE):TE:=fun σ H Q=>td σ H fun x H1=>∃a kvs1,x=.ref a/\RD P w K H1 a kvs1/\ty σ H1 fun y H2=>∃b kvs k,y=.ref b/\RD P w K H2 a kvs/\Nb.RowAt K H2 b k/\Q ((valV kvs k).getD .non) H2
theorem Qsh(B:X.A.units+2<cLine)(G:PE X o td)(C:PE X e ty)(m:M1 X o "get" apos e cpos):PE X (.Call (.Attribute o "get" apos) [e] [] cpos) (tRGet1 X.prog X.w X.K td ty):=by
 intro c s n H Q I h
 refine wpAny_Call_method m.base m.few m.line PySem.F.plainAttrs_dict PySem.F.slot_dict_get PySem.F.type_dict_get (thn (G c s n H _ I h) fun u t i=>?_)
 obtain⟨x,E,j,D,a,l,ex,d,q⟩:=i
 subst ex
 obtain rfl:u=Value.ref a:=D
 obtain⟨v,r,_⟩:=rd_at j d
 exists v,r,?_
 rw[m.trees]
 refine Calls.callWith_builtin rfl (Calls.evalArgs_plain (Calls.spliced_cons (thn (C c t n E _ j q) fun iv s2 ⟨y,H2,I2,ry,b,kvs,k,ey,g,hk,q2⟩=>Calls.spliced_nil ?_)))
 subst ey
 cases(show iv=Value.ref b from ry)
 obtain⟨z,f,p⟩:=Qat I2 g
 exact call_meetsIn PySem.F.slot_dict_get p.typeIs PySem.F.entry_dict_get (PySem.F.args_dict_get_2 _ _) (meetsH_dict_get (Vk X.prog X.w) a b g.sys) ⟨Qad (X:=X) B,k,z,Qas I2 hk,p,_,H2,I2.tok _,(f.val k).getD (d:=V.non) rfl,q2⟩
def tRGet(P:Program)(w:World)(K:Fg)(td ty:TE):TE:=fun σ H Q=>td σ H fun x H1=>ty σ H1 fun y H2=>∃a b kvs k v,x=.ref a/\y=.ref b/\RD P w K H2 a kvs/\Nb.RowAt K H2 b k/\valV kvs k=some v/\Q v H2
theorem Qvh(N:X.A.units+2<cLine)(D:PE X o td)(C:PE X e ty)(z:NoSl e):PE X (.Subscript o e pos) (tRGet X.prog X.w X.K td ty):=by
 intro c s n H Q I h
 refine Quq PySem.F.slot_dict_getitem.lookup z (thn (D c s n H _ I h) fun u s1 ⟨x,H1,I1,rx,q1⟩=>thn (C c s1 n H1 _ I1 q1) fun P S f=>?_)
 obtain⟨y,B,i,t,a,b,r,k,v,ex,L,g,E,l,O⟩:=f
 subst ex L
 obtain rfl:u=Value.ref a:=rx
 cases(show P=Value.ref b from t)
 obtain⟨M,d,q⟩:=Qat i g
 obtain⟨R,J,j⟩:=RelO.some_of (v:=v) (o:=(atKey M k).map (·.2)) (by rw[<-l];exact d.val k)
 obtain⟨p,G,m⟩:=zY.mp J
 exists q.typeIs,wpAny_getItem_heap (Qad (X:=X) N) (Qas i E) q G ?_
 rw[m]
 exists v,B,i.tok _,j,O
def sRPut(P:Program)(w:World)(K:Fg)(td ty tv:TE):TS:=fun D σ H=>tv σ H fun v H1=>td σ H1 fun x H2=>ty σ H2 fun y H3=>∃a b kvs k,x=.ref a/\y=.ref b/\RD P w K H3 a kvs/\Nb.RowAt K H3 b k/\kvs.length<sizeLine/\∀ob,RD P w K (upd H3 a ob) a (putK kvs k v)->(∀t q,Nb.RowAt K H3 t q->Nb.RowAt K (upd H3 a ob) t q)->D.nx σ (upd H3 a ob)
theorem Qpl{κ:Type}[DecidableEq κ]{kvs:List (κ×V)}{k:κ}(c:(kvs.map (·.1)).Nodup):((putK kvs k v).map (·.1)).Nodup:=by
 unfold putK
 split
 .rw[jKd]
  rw[show kvs.map ((fun x=>x.1)∘fun b=>if b.1=k then(b.1,v)else b)=kvs.map (·.1)from jJd fun p _=>by show(if p.1=k then(p.1,v)else p).1=p.1;split<;>rfl]
  exact c
 .rename_i a
  rw[kY]
  refine List.nodup_append.mpr ⟨c,jJc.mpr ⟨fun z=>(nomatch z),kKd⟩,fun x h y g e=>a ?_⟩
  obtain⟨p,f,d⟩:=zJ.mp h
  exact kQf.mpr ⟨p,f,yJ (d.trans (e.trans (kW.mp g)))⟩
theorem Qvi{value:Expr}{tv:TE}(hu:X.A.units+2<cLine)(ho:PE X o td)(U:PE X e ty)(hv:PE X value tv)(P:swapsWith value (some (.Subscript o e pos')) pos.line X.env=pure false) :
  PS X (.Assign [.Subscript o e pos'] value pos) (sRPut X.prog X.w X.K td ty tv):=by
 intro d s j H D I h
 refine wpAny_Assign_Subscript (thn (hv d s j H _ I h) fun r s1 ⟨v,H1,I1,rv,F⟩=>thn (ho d s1 j H1 _ I1 F) fun u s2 ⟨x,H2,I2,rx,L⟩=>thn (U d s2 j H2 _ I2 L) fun iv s3 m=>?_) P
 obtain⟨y,l,B,O,a,b,C,k,ex,ey,g,M,hl,T⟩:=m
 subst ex ey
 obtain rfl:u=Value.ref a:=rx
 cases(show iv=Value.ref b from O)
 obtain⟨xs,i,V⟩:=Qat B g
 obtain⟨aa,_,_,_,G,_⟩:=g.ex
 have W:xs.length<=sizeLine:=by rw[<-Paired.length i];exact g.len
 refine wpAny_setItem_heap (hsz:=W) (Qad (X:=X) hu) (Qas B M) V fun h' E n=>?_
 obtain⟨q,es,R,J,N,Y,Z,_,h5⟩:=E
 have up:∀t r,Nb.RowAt X.K l t r->Nb.RowAt X.K (upd l a (RDo a q)) t r:=fun t r ⟨p,z1,z2⟩=>by
  have f:∀{c ys},SqT X.K l c ys->SqT X.K (upd l a (RDo a q)) c ys:=fun{c ys} z=>by
   rcases z with(z | ⟨Q,z⟩) | z
   .exact .inl (.inl (by rw[Qj (Kt z G (by intro w;cases w))];exact z))
   .exact .inl (.inr ⟨Q,by rw[Qj (Kt z G (by intro w;cases w))];exact z⟩)
   .exact .inr z
  exists p,f z1,f z2
 have S:=Wc C k v
 exists j,_,Qhw (ob:=RDo a q) B (by rw[G];exact True.intro) n ⟨q,J⟩ ⟨J,⟨q,J⟩,fun h1 N F L=>L _ F⟩,T _ ⟨⟨q,es,R,_,upd_same,N,Y,Z,(i.put k M rv).imp up⟩,g.sys,Om,Qpl g.nd⟩ up
end
section
variable{K:Type}[DecidableEq K]{knd:HeapKind prog w K}{d:Addr}{k:K}{xs:List (K×Addr×Value)}
theorem Qvj{v:Value}(t:knd.room A)(b:knd.is s.heap k a)(F:s.heap.DictOfH knd d xs)(hz:xs.length<=sizeLine)
  (C:∀p,atKey xs k=some p->Q p.2 { s with toks:=s.toks+knd.draws k })
  (B:atKey xs k=none->∀h',h'.DictOfH knd d (xs++[(k,a,v)])->Heap.SameBut d s.heap h'->Q v { s with heap:=h',toks:=s.toks+knd.draws k }) :
  qe prog w A (dictSetDefault d (.ref a) v) Q E s:=by
 obtain⟨o,G,u,g,z,f,q,i,r⟩:=F
 unfold dictSetDefault
 try with_reducible refine Y30 ?_
 refine jX (knd.pyHash t b (jX (wpAny_dictFind_heap (s:={ s with toks:=s.toks+knd.draws k }) t b g f q i r (fun c=>?_) fun j p l=>?_)))
 .have m:k∉xs.map (·.1):=not_mem_keys_of_get c
  have kept:∀{x:K×Addr×Value},x∈xs++[(k,a,v)]->knd.is s.heap x.1 x.2.1:=fun{x} n=>by
   rcases xK.mp n with y | y
   .exact i x y
   .rw[kW.mp y];exact b
  refine jX (wpAny_rule (jX (wpAny_updateDictKeys (hz:=by have e:=size_of_entries q;lia) (s:={ s with toks:=s.toks+knd.draws k }) g f (kQ ?_))))
  refine B (atKey_none_of_get c) _ ⟨_,_,u+1,kJe _ g (Obj.isFreed_of_dict (Obj.data_mapDictKeys f _)),z.mapDictKeys _,Obj.data_mapDictKeys f _,?_,fun x n=>knd.keeps (kept n) g f (Heap.SameBut.update ..),?_⟩ (Heap.SameBut.update ..)
  .simp[q,entryOfKey]
  .rw[kY,List.nodup_append]
   exists r,by simp,fun x n y D e=>m (by rw[show k=y from(kW.mp D).symm,<-e];exact n)
 .refine jX (wpAny_dictEntries (s:={ s with toks:=s.toks+knd.draws k }) g f ?_)
  rw[entry_at q j,l]
  exact jX (wpAny_rule (kQ (C _ (atKey_of_get r l))))
theorem Qvk(i:(d == sysModules)=false)(b:Value) :
  MeetsIn prog w (Builtin.«dict.setdefault» ⟨[.ref d,.ref a,b],[]⟩) (fun A R s=>knd.room A.in1/\∃k xs,knd.is s.heap k a/\s.heap.DictOfH knd d xs/\xs.length<=sizeLine /\
   (∀p,atKey xs k=some p->R (.ok (.ret p.2)) { s with toks:=s.toks+knd.draws k }) /\
   (atKey xs k=none->∀h',h'.DictOfH knd d (xs++[(k,a,b)])->Heap.SameBut d s.heap h'->R (.ok (.ret b)) { s with heap:=h',toks:=s.toks+knd.draws k })) :=
 .of_wp fun A R s ⟨hu,k,xs,hkey,hm,hz,h1,h2⟩=>by
  unfold Builtin.«dict.setdefault»
  refine jX ?_
  unfold Builtin.Dict.keyAndDefault
  refine jX (wpAny_notOrdered_dict hm.typeIs (kQ ?_))
  show wpAny _ _ (if (d == sysModules)=true then _ else(dictSetDefault d (.ref a) b >>= _)) _ _ s
  rw[Y20 (by rw[i];exact yX)]
  exact jX (Qvj hu hkey hm hz (fun p f=>kQ ⟨p.2,rfl,h1 p f⟩) fun g h' c e=>kQ ⟨b,rfl,h2 g h' c e⟩)
end
section
variable{apos cpos:Pos}{o f:Expr}{td ty tx:TE}
def tRSd(P:Program)(w:World)(K:Fg)(td ty tx:TE):TE:=fun σ H Q=>td σ H fun x H1=>∃a kvs1,x=.ref a/\RD P w K H1 a kvs1/\ty σ H1 fun y H2=>tx σ H2 fun z H3=>∃b kvs k,y=.ref b/\RD P w K H3 a kvs/\Nb.RowAt K H3 b k/\kvs.length<sizeLine /\
 (∀v,valV kvs k=some v->Q v H3)/\(valV kvs k=none->∀ob,RD P w K (upd H3 a ob) a (kvs++[(k,z)])->(∀t q,Nb.RowAt K H3 t q->Nb.RowAt K (upd H3 a ob) t q)->Q z (upd H3 a ob))
theorem pe_rsd(hu:X.A.units+2<cLine)(ho:PE X o td)(he:PE X e ty)(hf:PE X f tx)(m:M2 X o "setdefault" apos e f cpos):PE X (.Call (.Attribute o "setdefault" apos) [e,f] [] cpos) (tRSd X.prog X.w X.K td ty tx):=by
 intro j s G H Q I h
 refine wpAny_Call_method m.base m.few m.line PySem.F.plainAttrs_dict PySem.F.slot_dict_setdefault PySem.F.type_dict_setdefault (thn (ho j s G H _ I h) fun u s1 D=>?_)
 obtain⟨x,H1,W,rx,a,U,ex,d,M⟩:=D
 subst ex
 obtain rfl:u=Value.ref a:=rx
 obtain⟨t1,t2,_⟩:=rd_at W d
 exists t1,t2,?_
 rw[m.trees]
 refine Calls.callWith_builtin rfl (Calls.evalArgs_plain (Calls.spliced_cons (thn (he j s1 G H1 _ W M) fun iv s2 ⟨y,H2,I2,ry,S⟩=>
  Calls.spliced_cons (thn (hf j s2 G H2 _ I2 S) fun fv s3 ⟨z,H3,I3,T,b,i,k,ey,g,hk,hl,q3,q4⟩=>Calls.spliced_nil ?_))))
 subst ey
 cases(show iv=Value.ref b from ry)
 obtain⟨Z,l,V⟩:=Qat I3 g
 obtain⟨aa,_,_,_,N,_⟩:=g.ex
 have lx:=Paired.length l
 refine call_meetsIn PySem.F.slot_dict_setdefault V.typeIs PySem.F.entry_dict_setdefault (PySem.F.args_dict_setdefault_3 _ _ _) (Qvk (knd:=Vk X.prog X.w) (d:=a) (a:=b) g.sys fv) ⟨Qad (X:=X) hu,k,Z,Qas I3 hk,V,Om,fun p hp=>?_,fun R h' L E=>?_⟩
 .have n:=l.val k
  rw[hp]at n
  obtain⟨v,ev,J⟩:∃v,valV i k=some v/\RelV v p.2:=by
   cases C:valV i k with
   |none=>rw[C]at n;exact Y21 n (fun z=>z)
   |some v=>rw[C]at n;exists v,rfl,n
  exists v,H3,I3.tok _,J,q3 v ev
 .have n:=l.val k
  rw[R]at n
  have en:valV i k=none:=by
   cases C:valV i k with
   |none=>rfl
   |some v=>rw[C]at n;exact Y21 n (fun z=>z)
  obtain⟨q,es,ep,O,Y,h3,h4,h6,h5⟩:=L
  have up:∀t r,Nb.RowAt X.K H3 t r->Nb.RowAt X.K (upd H3 a (RDo a q)) t r:=fun t r ⟨p,z1,z2⟩=>by
   have f:∀{c ys},SqT X.K H3 c ys->SqT X.K (upd H3 a (RDo a q)) c ys:=fun{c ys} z=>by
    rcases z with(z | ⟨o',z⟩) | z
    .exact .inl (.inl (by rw[Qj (Kt z N (by intro w;cases w))];exact z))
    .exact .inl (.inr ⟨o',by rw[Qj (Kt z N (by intro w;cases w))];exact z⟩)
    .exact .inr z
   exists p,f z1,f z2
  have B:KR X.K H3 (i++[(k,z)]) (Z++[(k,b,fv)]):=Paired.snoc l ⟨rfl,hk,T⟩
  have P:((i++[(k,z)]).map (·.1)).Nodup:=by
   rw[<-B.keys];exact h5
  exists z,_,Qhw (ob:=RDo a q) I3 (by rw[N];exact True.intro) E ⟨q,O⟩ ⟨O,⟨q,O⟩,fun h1 Y M S=>S _ M⟩,T,q4 en _ ⟨⟨q,es,ep,_,upd_same,Y,h3,h4,B.imp up⟩,g.sys,by rw[jV];exact hl,P⟩ up
def rIxD:R2:=fun x y H Q=>∃a kvs k v,x=.ref a/\y=.int k/\H a=some (.dK kvs)/\valV kvs (Sum.inl k)=some v/\Q v H
theorem ix_dk(C:X.A.units+1<cLine):IxR X rIxD:=by
 intro f d b s l H x y v u Q I t E h G
 obtain⟨a,D,k,z,rfl,rfl,o,e,q⟩:=h
 cases t
 have g:DGet H a (.int k) (some z):=by rw[<-e];exact DGet.k (k:=Sum.inl k) o
 have m:=Qhx I g
 unfold subscriptTail
 refine jX ?_
 rw[getitemInPython_of_ne m.not_modules]
 refine jX (wpAny_specialOf m PySem.F.slot_dict_getitem.lookup ?_)
 have fin:qd X X.A (subscripted d false (.ref a) u) (fun r c=>qd X X.A (letTemporaryGo f (.ref a) r >>= fun _=>pure r) (EP X b l Q) X.xe c) X.xe s:=by
  rw[G]
  exact wpAny_operating (Y29 (Qnj C I g E fun p n B j=>(⟨z,H,B,j,q⟩:EP X b l Q p n)) (fun r c i=>jX (wpAny_letTemporaryGo (kQ i))) fun _ _ x=>x)
 first
  |exact kQ (jX fin)
  |exact jX (kQ (jX fin))
  |exact jX fin
theorem Qpm(b:X.K=K)(a:X.A.units+1<cLine):IxR X (fun x y H Q=>rIxL K x y H Q\/rIxD x y H Q):=by subst b;exact ix_list.or (ix_dk a)
end
inductive SmD (K:Fg) (H:Hp):Nat->V->V->Prop
 |flat {n v:_}:Qai v=true->SmD K H n v v
 |tup {n a b xs ys:_}:SqT K H a xs->SqT K H b ys->xs.length=ys.length->(∀(i:Nat) x y,xs[i]?=some x->ys[i]?=some y->SmD K H n x y)->SmD K H (n+1) (.ref a) (.ref b)
 |lst {n a b xs ys:_}:SqL K H a xs->SqL K H b ys->xs.length=ys.length->(∀(i:Nat) x y,xs[i]?=some x->ys[i]?=some y->SmD K H n x y)->SmD K H (n+1) (.ref a) (.ref b)
theorem Qpn{x:V}(h:SmD X.K H n x y):∀{A:Around} {u v:Value},A.units+n<cLine->qI H s->RelV x u->RelV y v ->
  EqAt A s u v true/\(∀a c,u=.ref a->v=.ref c->RcAt A s u v true/\RcNeAt A s u v false):=by
 induction h with
 |@flat n x hf=>
  intro A u v W I o G
  have:=Qtd (A:=A) (s:=s) o G hf hf
  rw[Qsb hf]at this
  exists this,fun a c e _=>?_
  subst e
  cases x with
  |non=>cases o
  |bl b=>cases o
  |int i=>obtain⟨_,h⟩:=o;cases h
  |str z=>obtain⟨_,h⟩:=o;cases h
  |_=>exact nomatch hf
 |@tup m p q xs ys hq hq' hl hs ih=>
  intro A u v W I o G
  cases o
  cases G
  obtain⟨f,r,pt,_⟩:=I.tuple hq
  obtain⟨d,D,l,_⟩:=I.tuple hq'
  have Z:=r.length
  have Y:=D.length
  have k:∀j (M:j<f.toArray.size) (L:j<d.toArray.size),EqAt A.in1 s f.toArray[j] d.toArray[j] ((fun _=>true) j):=fun j M L=>by
   rw[kX]at M L
   have N:j<xs.length:=Om
   have C:j<ys.length:=Om
   obtain⟨R,J,B⟩:=r.get (gE N)
   obtain⟨T,O,t⟩:=D.get (gE C)
   have P:=(ih j _ _ (gE N) (gE C) (A:=A.in1) (by show A.units+1+m<cLine;lia) I B t).1
   have S:f.toArray[j]=R:=by rw[gE Om]at J;simpa using J
   have Q:d.toArray[j]=T:=by rw[gE Om]at O;simpa using O
   rw[S,Q]
   exact P
  have U:((List.range (min f.toArray.size d.toArray.size)).all (fun _=>true)&&f.toArray.size == d.toArray.size)=true:=by
   rw[wZ,Wn,kX,kX,beq_iff_eq]
   exists fun _ _=>rfl,Om
  have w:=RcAt.tuples pt l Om k
  have E:=RcNeAt.tuples pt l Om k
  rw[U]at w E
  exists ?_,fun a c _ _=>⟨w,E⟩
  by_cases g:p=q
  .subst g
   exact EqAt.same _
  .exact EqAt.of_refs g w
 |@lst m p q xs ys hq hq' hl hs ih=>
  intro A u v W I o G
  cases o
  cases G
  obtain⟨f,r,pt,_⟩:=I.list hq
  obtain⟨d,D,l,_⟩:=I.list hq'
  have Z:=r.length
  have Y:=D.length
  have k:∀j (M:j<f.toArray.size) (L:j<d.toArray.size),EqAt A.in1 s f.toArray[j] d.toArray[j] ((fun _=>true) j):=fun j M L=>by
   rw[kX]at M L
   have N:j<xs.length:=Om
   have C:j<ys.length:=Om
   obtain⟨R,J,B⟩:=r.get (gE N)
   obtain⟨T,O,t⟩:=D.get (gE C)
   have P:=(ih j _ _ (gE N) (gE C) (A:=A.in1) (by show A.units+1+m<cLine;lia) I B t).1
   have S:f.toArray[j]=R:=by rw[gE Om]at J;simpa using J
   have Q:d.toArray[j]=T:=by rw[gE Om]at O;simpa using O
   rw[S,Q]
   exact P
  have F:f.toArray.size=d.toArray.size:=by rw[kX,kX];lia
  have U:((List.range f.toArray.size).all (fun _=>true))=true:=by
   rw[Wn]
   exact fun _ _=>rfl
  have w:=RcAt.lists pt.isList l.isList F Om k
  have E:=RcNeAt.lists pt.isList l.isList F Om k
  rw[U]at w E
  exists ?_,fun a c _ _=>⟨w,E⟩
  by_cases g:p=q
  .subst g
   exact EqAt.same _
  .exact EqAt.of_refs g w
theorem Qvl(f:X.A.units+n<cLine):OpR X (compareOp .Eq) (fun x y H Q=>∃a b,x=.ref a/\y=.ref b/\SmD X.K H n x y/\Q (.bl true) H):=by
 intro c s i H x y v u Q I e g h
 obtain⟨a,b,rfl,rfl,d,q⟩:=h
 cases e
 cases g
 exact((Qpn d (A:=X.A) (u:=.ref a) (v:=.ref b) f I rfl rfl).2 a b rfl rfl).1 _ _ _ _ ⟨.bl true,H,I,rfl,q⟩
theorem Qpo(f:X.A.units+n<cLine):OpR X (compareOp .NotEq) (fun x y H Q=>∃a b,x=.ref a/\y=.ref b/\SmD X.K H n x y/\Q (.bl false) H):=by
 intro c s i H x y v u Q I e g h
 obtain⟨a,b,rfl,rfl,d,q⟩:=h
 cases e
 cases g
 exact((Qpn d (A:=X.A) (u:=.ref a) (v:=.ref b) f I rfl rfl).2 a b rfl rfl).2 _ _ _ _ ⟨.bl false,H,I,rfl,q⟩
section
theorem Qvm(j:X.A.units+n<cLine):OpR X (compareOp .Eq) (fun x y H Q=>∃(b:Addr) (ys:List V),x=.non/\y=.ref b/\SqT X.K H b ys/\Q (.bl false) H):=by
 intro a s i H x y v u Q I g f h
 obtain⟨b,ys,rfl,rfl,d,q⟩:=h
 cases g
 cases f
 obtain⟨e,r,c,_⟩:=I.tuple d
 exact RcAt.none_tuple c Om _ _ _ _ ⟨.bl false,H,I,rfl,q⟩
theorem Qvn(j:X.A.units+n<cLine):OpR X (compareOp .NotEq) (fun x y H Q=>∃(b:Addr) (ys:List V),x=.non/\y=.ref b/\SqT X.K H b ys/\Q (.bl true) H):=by
 intro a s i H x y v u Q I g f h
 obtain⟨b,ys,rfl,rfl,d,q⟩:=h
 cases g
 cases f
 obtain⟨e,r,c,_⟩:=I.tuple d
 exact RcNeAt.none_tuple c Om _ _ _ _ ⟨.bl true,H,I,rfl,q⟩
def rEqN(K:Fg)(n:Nat):R2:=fun x y H Q=>(∃(b:Addr) (ys:List V),x=.non/\y=.ref b/\SqT K H b ys/\Q (.bl false) H)\/∃a b d e,x=.ref a/\y=.ref b/\HasD K H x d/\HasD K H y e/\Alike n d e/\∀c:Bool,(c=true↔d=e)->Q (.bl c) H
def rNeN(K:Fg)(n:Nat):R2:=fun x y H Q=>(∃(b:Addr) (ys:List V),x=.non/\y=.ref b/\SqT K H b ys/\Q (.bl true) H)\/∃a b d e,x=.ref a/\y=.ref b/\HasD K H x d/\HasD K H y e/\Alike n d e/\∀c:Bool,(c=true↔d=e)->Q (.bl (!c)) H
theorem op_eqN(a:X.A.units+n<cLine):OpR X (compareOp .Eq) (rEqN X.K n):=(Qvm (X:=X) a).or (Qnc a)
theorem op_neN(a:X.A.units+n<cLine):OpR X (compareOp .NotEq) (rNeN X.K n):=(Qvn (X:=X) a).or (Qgj a)
variable{i o:Expr}{td ty:TE}
def Qvo(P:Program)(w:World)(K:Fg)(ty td:TE):TE:=fun σ H Q=>ty σ H fun y H1=>td σ H1 fun x H2=>∃a b kvs k,x=.ref a/\y=.ref b/\RD P w K H2 a kvs/\Nb.RowAt K H2 b k/\Q (.bl (!(valV kvs k).isSome)) H2
theorem Qpp(J:X.A.units+2<cLine)(C:PE X i ty)(E:PE X o td):PC X .NotIn i o (Qvo X.prog X.w X.K ty td):=by
 intro c s q H Q I h
 refine thn (C c s q H _ I h) fun iv s1 ⟨y,H1,I1,ry,q1⟩=>thn (E c s1 q H1 _ I1 q1) fun u N l=>?_
 obtain⟨x,B,m,M,a,b,d,k,ex,G,g,F,L⟩:=l
 subst ex G
 obtain rfl:u=Value.ref a:=M
 cases(show iv=Value.ref b from ry)
 obtain⟨t,j,D⟩:=Qat m g
 refine wpAny_notIn_heap (knd:=Vk X.prog X.w) (Qad (X:=X) J) (Qas m F) g.sys D ⟨.bl _,B,m.tok _,rfl,?_⟩
 have f:=j.val k
 have e:(atKey t k).isSome=(valV d k).isSome:=by
  cases r:atKey t k with
  |none=>
   rw[r]at f
   cases n:valV d k with
   |none=>rfl
   |some v=>rw[n]at f;exact Y21 f (fun z=>z)
  |some p=>
   rw[r]at f
   cases n:valV d k with
   |none=>rw[n]at f;exact Y21 f (fun z=>z)
   |some v=>rfl
 rw[e];exact L
open Classical in
theorem op_inR(F:X.K=K)(N:X.A.units+6<cLine):OpR X (compareOp .In) (fun x y H Q=>∃(a p:Addr) (r:Rw2) (vs:List V) (rs:List Rw2),x=.ref a/\y=.ref p/\Nb.RowAt K H a r/\SqL K H p vs/\Nb.RowsAre K H vs rs/\∀c:Bool,(c=true↔r∈rs)->Q (.bl c) H):=by
 subst F
 intro n s J H x y v u Q I m B h
 obtain⟨a,p,r,vs,rs,rfl,rfl,C,E,t,q⟩:=h
 cases m
 cases B
 obtain⟨b,D,o,M⟩:=I.list E
 have j:=Qgw I D t
 have m:=Qjs I C
 refine in_listAt (fun v=>decide (RowIn s.heap v r)) o.isList (fun w l=>?_) ⟨.bl _,H,I,rfl,q _ ?_⟩
 .obtain⟨i,f,rfl⟩:=kXb (show w∈b by simpa using l)
  obtain⟨k,g,d⟩:=Paired.getR j (gE f)
  have:decide (RowIn s.heap b[i] r)=decide (k=r):=decide_eq_decide.mpr ⟨fun z=>d.inj z,fun z=>z▸d⟩
  rw[this]
  exact Quu d m (by show X.A.units+1+1<cLine;lia)
 .rw[show b.toArray.any (fun v=>decide (RowIn s.heap v r))=b.any (fun v=>decide (RowIn s.heap v r))by simp,kQf]
  constructor
  .rintro⟨w,l,z⟩
   obtain⟨i,f,rfl⟩:=kXb l
   obtain⟨k,g,d⟩:=Paired.getR j (gE f)
   rw[<-d.inj (yQ z)]
   exact kK g
  .intro G
   obtain⟨i,f,e⟩:=kXb G
   have L:b.length=rs.length:=Paired.length j
   obtain⟨k,g,d⟩:=Paired.getR j (gE (show i<b.length by lia))
   rw[gE f]at g
   cases g
   exists b[i],jYa _,yJ (e▸d)
def rCatA(K:Fg):R2:=fun x y H Q=>∃a b xs ys,x=.ref a/\y=.ref b/\SqT K H a xs/\SqT K H b ys/\xs.length+ys.length<=sizeLine/\∀(p:Addr) (H':Hp),Same H H'->SqT K H' p (xs++ys)->Q (.ref p) H'
theorem Qiu:OpR X (binaryOp .Add) (rCatA X.K):=by
 intro c s t H x y v u Q I r k h
 obtain⟨a,b,m,E,rfl,rfl,i,j,A,q⟩:=h
 by_cases G:E=[]
 .subst G
  by_cases w:m=[]
  .subst w
   cases r
   cases k
   obtain⟨o,S,M,_⟩:=I.tuple i
   obtain⟨d,U,O,_⟩:=I.tuple j
   have N:o=[]:=S.nil_iff.mpr rfl
   subst N
   obtain⟨⟨W,J,T,l⟩,C,D,n,B⟩:=id M
   obtain⟨⟨V,R,L,p⟩,f,e,P,g⟩:=id O
   simp only at D B e g
   subst D B e g
   exact concat_meets ⟨_,C,rfl⟩ ⟨_,f,rfl⟩ noFill_tuple_add seq_tuple_add PySem.F.slot_tuple_add PySem.F.entry_tuple_add (PySem.F.args_tuple_add_2 _ _) (tuple_addW0 a b ([]:List Value).toArray d.toArray n P J R l p (by simp)) ⟨C,f,⟨.ref b,H,I,rfl,q b H (Same.refl H) j⟩⟩
  .exact Qdy c s t H (.ref a) (.ref b) v u Q I r k ⟨a,b,m,[],rfl,rfl,i,j,w,A,fun _=>q a H (Same.refl H) (by rw[kXd];exact i),fun z=>Y21 rfl z⟩
 .exact Qca c s t H (.ref a) (.ref b) v u Q I r k ⟨a,b,m,E,rfl,rfl,i,j,G,A,q⟩
end
section
variable{st:Option Expr}{ts:TO}{p2:Pos}
def tRev(K:Fg)(te:TE)(ts:TO):TE:=fun σ H Q=>te σ H fun x H1=>ts σ H1 fun u H2=>∃a xs,u=some (-1)/\x=.ref a/\SqL K H2 a xs/\∀p,H2 p=none->Q (.ref p) (upd H2 p (.lst xs.reverse))
theorem pe_rev(C:PE X e te)(O:PO X st ts)(g:∀o i,subscripted (.Slice none none st p2) false o i=operate [o,i] (getItem o i):=by intro _ _;with_unfolding_all rfl):PE X (.Subscript e (.Slice none none st p2) pos) (tRev X.K te ts):=by
 intro c s j H Q I h
 refine Subscript_ (thn (C c s j H _ I h) fun v L f=>?_)
 obtain⟨x,S,E,G,J⟩:=f
 refine wpAny_Slice ?_
 rw[evalPart_none]
 refine kQ (kQ ?_)
 refine thn (O c L j S _ E J) fun p d f=>?_
 obtain⟨u,D,y,P,a,M,N,ex,R,z⟩:=f
 subst N ex
 cases G
 have k:Inv X c j D { d with heap:=d.heap.push { cls:=.type "slice",data:=.fields #[.none,.none,p] } }:=y.kept (t':=d.toks) fun b F q=>jK _ q
 obtain⟨l,r,n,B⟩:=k.list R
 have m:=r.length
 show qd X X.A (subscriptTail e (.Slice none none st p2) (.ref a) (.ref (qa d))) (EP X c j Q) X.xe { d with heap:=d.heap.push { cls:=.type "slice",data:=.fields #[.none,.none,p] } }
 refine tail_any (ops:=[.ref a,.ref (qa d)]) n.isList.typeIs slot_list_getitem.lookup ?_ (g _ _)
 refine wpAny_getItem_list_slice n.isList (Heap.IsSliceOf.new ..) .none .none P (by simp) ?_ (by rw[kX]<;>lia)
 rw[PySem.W.krv_pick]
 exists .ref _,_,k.laid (t':=d.toks) (o:=.lst M.reverse) (fun b F q=>jK _ q) (jJ _) ?_,rfl,z _ (k.hok.fresh (jJ _))
 exists by rw[yQb];exact B,l.reverse,0,?_,yZ _ rfl
 exact r.reverse
end
def gTupL(K:Fg)(n:Nat)(t:TGs):TG:=fun v σ H Q=>∃a xs,v=.ref a/\SqL K H a xs/\xs.length=n/\t xs σ H Q
theorem Qvp{k:Nat}{t:TGs}(l:X.calm=true)(h:PGs X es t)
  (y:qb ((assignEach es X.env).length=n)) (d:qb ((assignEach es X.env).findIdx? (·.1)=none)):PG X (.Tuple es k pos) (gTupL X.K n t):=by
 intro c s j H v u Q I r g
 obtain⟨a,x,p,q,w,g⟩:=g
 subst p
 cases r
 obtain⟨f,i,A,C⟩:=I.list q
 rw[PyProof.Rows.assign_Tuple]
 refine jX (wpAny_standAt ?_)
 unfold unpack
 rw[show(assignEach es X.env).length=f.toArray.size by simp[y,<-w,i.length],d]
 refine jX (Y30 (PySem.W.kun_itemsOf (I.ok.hd l) A.isList fun z B=>?_))
 have m:Inv X c j H { s with heap:=z }:=I.kept (t':=s.toks) fun b o e=>B b o (xQ (zQ e)) e
 exact h c _ j H x _ Q m (by simpa using i) g
def gPairL(K:Fg)(i j:Nat):TG:=gTupL K 2 (Qmb (Qdw i) (Qmb (Qdw j) gNil))
theorem Qsi{y:Str}{py:Pos}{k:Nat}(f:X.K=K)(d:X.calm=true)(a:X.N.Nodup)(e:X.N[i]?=some x)(g:X.N[j]?=some y)(c:qh X x=some .local)(b:qh X y=some .local) :
  PG X (.Tuple [.Name x px,.Name y py] k pos) (gPairL K i j):=by
 subst f
 exact Qvp d (Vm (Xe a e (.inl c) (.inr c)) (Vm (Xe a g (.inl b) (.inr b)) Qhq))
end L2
variable{kvs:List (L2.Rw2×L2.V)}
namespace Nb
open PySem L2
theorem eqStr{y:Str}(h:decide (V.str x=V.str y)=true):x=y:=V.str.inj (yQ h)
theorem Qlw{y:Str}(h:¬decide (V.str x=V.str y)=true):x≠y:=fun z=>h (yJ (congrArg V.str z))
def Vw:DL->Str
 |.giv _=>"given"
 |.low _=>"low"
 |.high _=>"high"
 |.bet=>"better"
 |.no=>"no"
 |.sm _=>"sum"
 |.shr _ _=>"share"
 |.sht _ _=>"shut"
 |.eit _ _ _=>"either"
 |.lik _=>"like"
theorem Qiv{u:Addr}(h:DLAt K H u ln):∃vs,SqT K H u (.str (Vw ln)::vs):=by
 cases ln with
 |sm ps=>obtain⟨l,a,_⟩:=h;exists _,a
 |sht o hs=>obtain⟨l,a,_⟩:=h;exists _,a
 |lik t=>obtain⟨l,a,_⟩:=h;exists _,a
 |giv k=>exists _,h
 |low k=>exists _,h
 |high k=>exists _,h
 |bet=>exists _,h
 |no=>exists _,h
 |shr o b=>exists _,h
 |eit o p c=>exists _,h
theorem wd_sm(h:Vw ln="sum"):∃ps,ln=.sm ps:=by cases ln<;>first | exact⟨_,rfl⟩ | (dsimp only[Vw]at h;exact Y21 h Dk)
theorem Qtr(h:Vw ln="either"):∃o p c,ln=.eit o p c:=by cases ln<;>first | exact⟨_,_,_,rfl⟩ | (dsimp only[Vw]at h;exact Y21 h Dk)
theorem atW:atI (v::vs) 0=some v:=Zx (j:=0) rfl
theorem Qts(h:Vw ln="given"):∃k,ln=.giv k:=by cases ln<;>first | exact⟨_,rfl⟩ | (dsimp only[Vw]at h;exact Y21 h Dk)
def plV:Option Nat->V
 |none=>.non
 |some j=>.int ((j:Nat):Int)
abbrev pOf(pl:List (Option Nat))(k:Int):Option Nat:=pl.getD k.toNat none
def opD:Option Nat->Dt
 |none=>.non
 |some j=>.int ((j:Nat):Int)
def plF(pl:List (Option Nat))(k:Int):Int:=(((pOf pl k).getD 0:Nat):Int)
def renD(pl:List (Option Nat)):DL->Dt
 |.sm ps=>.tup [.str "sum",.lst (ps.map fun p=>.tup [opD (pOf pl p.1),.int p.2])]
 |.shr o b=>.tup [.str "share",opD (pOf pl o),.int b]
 |.sht o hs=>.tup [.str "shut",opD (pOf pl o),.lst (hs.map Jg)]
 |.eit o p c=>.tup [.str "either",opD (pOf pl o),opD (pOf pl p),.int c]
 |ln=>dlD ln
def RenN(K:Fg)(H0 H:Hp)(u:Addr)(pl:List (Option Nat)):DL->Prop
 |.sm ps=>∃l ws,H0 l=none/\SqT K H u [.str "sum",.ref l]/\H l=some (.lst ws)/\Paired (fun v (p:Int×Int)=>∃T,v=.ref T/\SqT K H T [plV (pOf pl p.1),.int p.2]) ws ps
 |.shr o b=>SqT K H u [.str "share",plV (pOf pl o),.int b]
 |.sht o hs=>∃l ws,H0 l=none/\SqT K H u [.str "shut",plV (pOf pl o),.ref l]/\H l=some (.lst ws)/\PairsAre K H ws (hs.map fun p=>(p.1,V.int p.2))
 |.eit o p c=>SqT K H u [.str "either",plV (pOf pl o),plV (pOf pl p),.int c]
 |ln=>DLN K H0 H u ln
section
variable{u:Addr}
theorem Qcz(o:Option Nat):HasT K H (plV o) (opD o):=by
 cases o with
 |none=>exact .non
 |some j=>exact .int _
theorem RenN.has(h:RenN K H0 H u pl ln):HasT K H (.ref u) (renD pl ln):=by
 cases ln with
 |giv k=>exact Wg (DLN.dlat (show DLN K H0 H u (.giv k)from h))
 |low k=>exact Wg (DLN.dlat (show DLN K H0 H u (.low k)from h))
 |high k=>exact Wg (DLN.dlat (show DLN K H0 H u (.high k)from h))
 |bet=>exact Wg (DLN.dlat (show DLN K H0 H u .bet from h))
 |no=>exact Wg (DLN.dlat (show DLN K H0 H u .no from h))
 |lik t=>exact Wg (DLN.dlat (show DLN K H0 H u (.lik t)from h))
 |shr o b=>exact tupT h (.cons (.str _) (.cons (Qcz _) (.cons (.int _) .nil)))
 |eit o p c=>exact tupT h (.cons (.str _) (.cons (Qcz _) (.cons (Qcz _) (.cons (.int _) .nil))))
 |sht o hs=>obtain⟨l,m,_,e,d,a⟩:=h;exact tupT e (.cons (.str _) (.cons (Qcz _) (.cons (Qoz (Qg d) a) .nil)))
 |sm ps=>
  obtain⟨l,m,_,e,d,a⟩:=h
  refine tupT e (.cons (.str _) (.cons (.lst (Qg d) (by rw[jQ];exact Paired.length a) fun i v x j f=>?_) .nil))
  obtain⟨p,g,T,rfl,n⟩:=L2.Xw a j
  rw[jZ,g]at f
  cases f
  exact tupT n (.cons (Qcz _) (.cons (.int _) .nil))
theorem Qae{o:Option Nat}(h:o.isSome=true):plV o=.int (((o.getD 0:Nat)):Int):=by
 cases o with
 |none=>cases h
 |some j=>rfl
theorem Qaf{o:Option Nat}(h:o.isSome=true):opD o=.int (((o.getD 0:Nat)):Int):=by
 cases o with
 |none=>cases h
 |some j=>rfl
abbrev Qda(pl:List (Option Nat))(ln:DL):Prop:=∀k∈ln.names,(pOf pl k).isSome=true
theorem RenN.dln(h:RenN K H0 H u pl ln)(c:Qda pl ln):DLN K H0 H u (ln.ren (plF pl)):=by
 cases ln with
 |giv k=>exact h
 |low k=>exact h
 |high k=>exact h
 |bet=>exact h
 |no=>exact h
 |lik t=>exact h
 |shr o b=>
  have f:SqT K H u [.str "share",plV (pOf pl o),.int b]:=h
  rw[Qae (c o (kZ ..))]at f
  exact f
 |eit o p k=>
  have f:SqT K H u [.str "either",plV (pOf pl o),plV (pOf pl p),.int k]:=h
  rw[Qae (c o (kZ ..)),Qae (c p (yW _ (kZ ..)))]at f
  exact f
 |sht o hs=>
  obtain⟨l,i,n,d,g,j⟩:=h
  rw[Qae (c o (kZ ..))]at d
  exists l,i,n,d,g,j
 |sm ps=>
  obtain⟨l,i,n,d,g,j⟩:=h
  exists l,i,n,d,g,?_
  have m:∀p∈ps,(pOf pl p.1).isSome=true:=fun p s=>c p.1 (zJ.mpr ⟨p,s,rfl⟩)
  clear d g n c
  induction j with
  |nil=>exact .nil
  |@cons v p vs ps a _ ih=>
   refine .cons ?_ (ih fun q w=>m q (yW _ w))
   obtain⟨T,e,r⟩:=a
   rw[Qae (m p kZ)]at r
   exists T,e,r
theorem Qpq(c:Qda pl ln):renD pl ln=dlD (ln.ren (plF pl)):=by
 cases ln with
 |giv k=>rfl
 |low k=>rfl
 |high k=>rfl
 |bet=>rfl
 |no=>rfl
 |lik t=>rfl
 |shr o b=>show Dt.tup [.str "share",opD (pOf pl o),.int b]=_;rw[Qaf (c o (kZ ..))];rfl
 |eit o p k=>show Dt.tup [.str "either",opD (pOf pl o),opD (pOf pl p),.int k]=_;rw[Qaf (c o (kZ ..)),Qaf (c p (yW _ (kZ ..)))];rfl
 |sht o hs=>show Dt.tup [.str "shut",opD (pOf pl o),.lst (hs.map Jg)]=_;rw[Qaf (c o (kZ ..))];rfl
 |sm ps=>
  show Dt.tup [.str "sum",.lst (ps.map fun p=>.tup [opD (pOf pl p.1),.int p.2])]=Dt.tup [.str "sum",.lst ((ps.map fun p=>(plF pl p.1,p.2)).map Jg)]
  rw[jKd]
  have:(ps.map fun p=>Dt.tup [opD (pOf pl p.1),.int p.2])=ps.map (Jg∘fun p=>(plF pl p.1,p.2)):=jJd fun p a=>by
   rw[Qaf (c p.1 (zJ.mpr ⟨p,a,rfl⟩))];rfl
  rw[this]
theorem sm_op(o:Option Nat)(h:∀j,o=some j->j<1000000):Sm (opD o):=by
 cases o with
 |none=>exact .non
 |some j=>exact Ka ⟨Om,by have:=h j rfl;lia⟩
theorem sm_ren(d:n<=20)(h:DLok n ln)(i:∀j,some j∈pl->j<1000000):Sm (renD pl ln):=by
 have f:∀k,Sm (opD (pOf pl k)):=fun k=>sm_op _ fun j e=>i j (by
  unfold pOf at e
  rw[jY]at e
  cases c:pl[k.toNat]? with
  |none=>rw[c]at e;cases e
  |some o=>rw[c]at e;have m:o=some j:=e;rw[m]at c;exact kK c)
 cases ln with
 |giv k=>exact Qir d h
 |low k=>exact Qir d h
 |high k=>exact Qir d h
 |bet=>exact Qir d h
 |no=>exact Qir d h
 |lik t=>exact Qir d h
 |shr o b=>exact .tup _ (Xd (.str _) (Xd (f o) (Xd (Ka ⟨by have:=h.2.1;lia,by have:=h.2.2;lia⟩) Zl)))
 |eit o p c=>exact .tup _ (Xd (.str _) (Xd (f o) (Xd (f p) (Xd (Ka h.2.2) Zl))))
 |sht o hs=>
  have q:=Qac h.2
  refine .tup _ (Xd (.str _) (Xd (f o) (Xd (.lst _ (by rw[jQ];lia) fun x l=>?_) Zl)))
  obtain⟨p,i,rfl⟩:=zJ.mp l
  obtain⟨a,b,c⟩:=h.2.ok p i
  exact .tup _ (Xd (Ka ⟨a,Om⟩) (Xd (Ka ⟨Om,Om⟩) Zl))
 |sm ps=>
  refine .tup _ (Xd (.str _) (Xd (.lst _ (by rw[jQ];have:=h.1;lia) fun x l=>?_) Zl))
  obtain⟨p,g,rfl⟩:=zJ.mp l
  obtain⟨a,b,c⟩:=h.2 p g
  exact .tup _ (Xd (f p.1) (Xd (Ka ⟨b,Om⟩) Zl))
theorem Qpr(h:DLok cs.length ln\/∃n,DLok n ln)(c:¬Qda pl ln):rowT rs cs best told (renD pl ln)=none:=by
 obtain⟨k,a⟩:=Classical.not_forall.mp c
 obtain⟨a,g⟩:=Classical.not_imp.mp a
 have d:opD (pOf pl k)=.non:=by
  cases e:pOf pl k with
  |none=>rfl
  |some j=>rw[e]at g;exact Y21 rfl g
 cases ln with
 |giv k=>exact nomatch a
 |low k=>exact nomatch a
 |high k=>exact nomatch a
 |bet=>exact nomatch a
 |no=>exact nomatch a
 |lik t=>exact nomatch a
 |shr o b=>
  obtain rfl:=kW.mp a
  refine(Zi rfl).trans ?_
  show(if 1<=b then(nmT told (opD (pOf pl k))).bind _ else none)=none
  rw[d]
  split<;>rfl
 |sht o hs=>
  obtain rfl:=kW.mp a
  refine(Zi rfl).trans ?_
  show(nmT told (opD (pOf pl k))).bind _=none
  rw[d];rfl
 |eit o p x=>
  refine(Zi rfl).trans ?_
  show(nmT told (opD (pOf pl o))).bind (fun i=>(nmT told (opD (pOf pl p))).bind _)=none
  rcases yK.mp a with e | e
  .subst e;rw[d];rfl
  .obtain rfl:=kW.mp e
   rw[d]
   cases nmT told (opD (pOf pl o))<;>rfl
 |sm ps=>
  refine(Zi rfl).trans ?_
  obtain⟨q,f,rfl⟩:=zJ.mp a
  show sumD cs.length told (.lst (ps.map fun p=>.tup [opD (pOf pl p.1),.int p.2]))=none
  cases ps with
  |nil=>cases f
  |cons p r=>
   show(allT (ptT told) ((p::r).map fun p=>Dt.tup [opD (pOf pl p.1),.int p.2])).map _=none
   rw[Qio (x:=q) f (by
    show(if 0<=q.2 then(nmT told (opD (pOf pl q.1))).map fun k=>(k,q.2)else none)=none
    rw[d]
    split<;>rfl)]
   rfl
end
theorem Qps{pl:Addr}{ps:List (Option Nat)}(h:SqL K H pl (ps.map plV)){k:Int}(b:0<=k/\k<(ps.length:Int)){Q:VK}(q:Q (plV (pOf ps k)) H):rIxL K (.ref pl) (.int k) H Q\/rIxD (.ref pl) (.int k) H Q:=by
 refine .inl ⟨pl,_,_,_,rfl,rfl,h,?_,q⟩
 have a:k.toNat<ps.length:=Om
 have:=Zx (xs:=ps.map plV) (j:=k.toNat) (v:=plV (pOf ps k)) (by rw[jZ];unfold pOf;rw[jY,gE a];rfl)
 rw[show((k.toNat:Nat):Int)=k by lia]at this
 exact this
inductive spRen(K:Fg)(vs:List V)(H:Hp)(Q:VK)(E:XK):Prop|mk(u pl:Addr)(ln:DL)(ps:List (Option Nat))(n:Nat)(_:vs=[.ref u,.ref pl])(_:DLAt K H u ln)(_:DLok n ln)(_:n<=20)(_:SqL K H pl (ps.map plV))(_:(∀k∈ln.names,0<=k/\k<(ps.length:Int)))(_:∀(u':Addr) (H':Hp),Same H H'->RenN K H H' u' ps ln->Q (.ref u') H'):spRen K vs H Q E
abbrev sRen:Stmt:=top 13
theorem scRen:FnScope ["line","places"] ["line","places"] (Qf sRen):=Sc
theorem okRen(F:Fn K mg "renumbered" sRen)(M:Mg mg):qC 1 "renumbered" ["line","places"] (spRen K):=by
 refine Xf F scRen (a:=fun f ag A ab s H vs Q E hr h=>?_)
 obtain⟨u,pl,ln,qs,n,rfl,d,ad,hn,y,r,q⟩:=h
 have a:=Z6 1 hr.un
 have B:=Z6 1 hr.un
 refine⟨_,(Qd (Xg (Qr Yh (Qo Qm (pv 0) Qe) Xj (Qs _)) (Qh (Qp (Qy (Qa Xj (Qa (Zn ["place","many","places"] [none,none,some 1] rfl (Xq (Qo Qm (pv 0) Qe)) (fun _ _ _=>(Yb (K:=K) (i:=0) (j:=1) rfl rfl (show(["place","many","places"]:List Str).Nodup by decide +kernel) rfl rfl rfl rfl)) (fun _ _ _=>Yc) (fun _ _ _=>(Qy (Qa (Qo (Qpm (K:=K) rfl B) (pv 2) (pv 0)) (Qa (pv 1) Qc))))) Qc))))) Qq)
  (Qd (Xg (Qr Yh (Qo Qm (pv 0) Qe) Xj (Qs _)) (Qh (Qp (Qy (Qa Xj (Qa (Qo (Qpm (K:=K) rfl B) (pv 1) (Qo Qm (pv 0) Qe)) (Qa (Qo Qm (pv 0) Qe) Qc)))))) Qq)
  (Qd (Xg (Qr Yh (Qo Qm (pv 0) Qe) Xj (Qs _)) (Qh (Qp (Qy (Qa Xj (Qa (Qo (Qpm (K:=K) rfl B) (pv 1) (Qo Qm (pv 0) Qe)) (Qa (Qz Zk rfl M.list_ Yu (Qa (Qo Qm (pv 0) Qe) Qc)) Qc)))))) Qq)
  (Qd (Xg (Qr Yh (Qo Qm (pv 0) Qe) Xj (Qs _)) (Qh (Qp (Qy (Qa Xj (Qa (Qo (Qpm (K:=K) rfl B) (pv 1) (Qo Qm (pv 0) Qe)) (Qa (Qo (Qpm (K:=K) rfl B) (pv 1) (Qo Qm (pv 0) Qe)) (Qa (Qo Qm (pv 0) Qe) Qc))))))) Qq)
  (Qh (Qp (Qja (Qr Yh (Qo Qm (pv 0) Qe) Xj (Qs _)) (Qy (Qa Xj (Qa (Qz Zk rfl M.list_ Yu (Qa (Qo Qm (pv 0) Qe) Qc)) Qc))) (pv 0)))))))),?_⟩
 refine Wv ?_;intros
 exists"z"
 cases ln with
 |giv k=>
  have a:SqT K H u _:=d
  exists 4,u,8,a,at0,rfl,4,ite2 (fun e=>Y21 e Dk) (fun _=>?_)
  exists 4,u,8,a,at0,rfl,4,ite2 (fun e=>Y21 e Dk) (fun _=>?_)
  exists 4,u,8,a,at0,rfl,4,ite2 (fun e=>Y21 e Dk) (fun _=>?_)
  exists 4,u,8,a,at0,rfl,4,ite2 (fun e=>Y21 e Dk) (fun _=>?_)
  exists 4,u,8,a,at0,rfl,4,ite2 (fun e=>Y21 e Dk) (fun _=>?_)
  exists 4,q u H (Same.refl H) d
 |low k=>
  have a:SqT K H u _:=d
  exists 4,u,8,a,at0,rfl,4,ite2 (fun e=>Y21 e Dk) (fun _=>?_)
  exists 4,u,8,a,at0,rfl,4,ite2 (fun e=>Y21 e Dk) (fun _=>?_)
  exists 4,u,8,a,at0,rfl,4,ite2 (fun e=>Y21 e Dk) (fun _=>?_)
  exists 4,u,8,a,at0,rfl,4,ite2 (fun e=>Y21 e Dk) (fun _=>?_)
  exists 4,u,8,a,at0,rfl,4,ite2 (fun e=>Y21 e Dk) (fun _=>?_)
  exists 4,q u H (Same.refl H) d
 |high k=>
  have a:SqT K H u _:=d
  exists 4,u,8,a,at0,rfl,4,ite2 (fun e=>Y21 e Dk) (fun _=>?_)
  exists 4,u,8,a,at0,rfl,4,ite2 (fun e=>Y21 e Dk) (fun _=>?_)
  exists 4,u,8,a,at0,rfl,4,ite2 (fun e=>Y21 e Dk) (fun _=>?_)
  exists 4,u,8,a,at0,rfl,4,ite2 (fun e=>Y21 e Dk) (fun _=>?_)
  exists 4,u,8,a,at0,rfl,4,ite2 (fun e=>Y21 e Dk) (fun _=>?_)
  exists 4,q u H (Same.refl H) d
 |bet=>
  have a:SqT K H u _:=d
  exists 4,u,8,a,at10,rfl,4,ite2 (fun e=>Y21 e Dk) (fun _=>?_)
  exists 4,u,8,a,at10,rfl,4,ite2 (fun e=>Y21 e Dk) (fun _=>?_)
  exists 4,u,8,a,at10,rfl,4,ite2 (fun e=>Y21 e Dk) (fun _=>?_)
  exists 4,u,8,a,at10,rfl,4,ite2 (fun e=>Y21 e Dk) (fun _=>?_)
  exists 4,u,8,a,at10,rfl,4,ite2 (fun e=>Y21 e Dk) (fun _=>?_)
  exists 4,q u H (Same.refl H) d
 |no=>
  have a:SqT K H u _:=d
  exists 4,u,8,a,at10,rfl,4,ite2 (fun e=>Y21 e Dk) (fun _=>?_)
  exists 4,u,8,a,at10,rfl,4,ite2 (fun e=>Y21 e Dk) (fun _=>?_)
  exists 4,u,8,a,at10,rfl,4,ite2 (fun e=>Y21 e Dk) (fun _=>?_)
  exists 4,u,8,a,at10,rfl,4,ite2 (fun e=>Y21 e Dk) (fun _=>?_)
  exists 4,u,8,a,at10,rfl,4,ite2 (fun e=>Y21 e Dk) (fun _=>?_)
  exists 4,q u H (Same.refl H) d
 |lik t=>
  obtain⟨l,a,N⟩:=id d
  exists 4,u,8,a,at0,rfl,4,ite2 (fun e=>Y21 e Dk) (fun _=>?_)
  exists 4,u,8,a,at0,rfl,4,ite2 (fun e=>Y21 e Dk) (fun _=>?_)
  exists 4,u,8,a,at0,rfl,4,ite2 (fun e=>Y21 e Dk) (fun _=>?_)
  exists 4,u,8,a,at0,rfl,4,ite2 (fun e=>Y21 e Dk) (fun _=>?_)
  exists 4,u,8,a,at0,rfl,4,ite2 (fun _=>?_) (fun e=>Y21 Dk e)
  exists 4,u,8,a,at1,l,4,.inl N,fun C m=>?_
  have X:=Qb m (.lst ((tI t).map V.int))
  have b1:upd H C (.lst ((tI t).map V.int)) C=some (.lst ((tI t).map V.int)):=upd_same
  generalize upd H C (.lst ((tI t).map V.int))=H1 at X b1⊢
  exists Z1 2,fun J g=>?_
  have G:=Qb g (.tup [.str "like",.ref C])
  exact q J _ (X.trans G) ⟨C,m,Qn upd_same,G _ _ b1⟩
 |shr o b=>
  have a:SqT K H u _:=d
  exists 4,u,8,a,at30,rfl,4,ite2 (fun e=>Y21 e Dk) (fun _=>?_)
  exists 4,u,8,a,at30,rfl,4,ite2 (fun _=>?_) (fun e=>Y21 Dk e)
  exists 4,4,u,8,a,at31,Qps y (r _ (kZ ..)) ⟨_,rfl,u,_,_,_,rfl,rfl,a,at32,Z1 3,fun J g=>?_⟩
  exact q J _ (Qb g _) (Qn upd_same)
 |sht o hs=>
  obtain⟨l,a,R,N,I⟩:=id d
  exists 4,u,8,a,at30,rfl,4,ite2 (fun e=>Y21 e Dk) (fun _=>?_)
  exists 4,u,8,a,at30,rfl,4,ite2 (fun e=>Y21 e Dk) (fun _=>?_)
  exists 4,u,8,a,at30,rfl,4,ite2 (fun _=>?_) (fun e=>Y21 Dk e)
  exists 4,4,u,8,a,at31,Qps y (r _ (kZ ..)) ⟨_,rfl,u,_,_,_,rfl,rfl,a,at32,l,_,rfl,.inl N,fun C m=>?_⟩
  have X:=Qb m (.lst R)
  have b1:upd H C (.lst R) C=some (.lst R):=upd_same
  generalize upd H C (.lst R)=H1 at X b1⊢
  exists Z1 3,fun J g=>?_
  have G:=Qb g (.tup [.str "shut",plV (pOf qs o),.ref C])
  exact q J _ (X.trans G) ⟨C,R,m,Qn upd_same,G _ _ b1,PairsAre.same (X.trans G) I⟩
 |eit o p c=>
  have a:SqT K H u _:=d
  exists 4,u,8,a,at40,rfl,4,ite2 (fun e=>Y21 e Dk) (fun _=>?_)
  exists 4,u,8,a,at40,rfl,4,ite2 (fun e=>Y21 e Dk) (fun _=>?_)
  exists 4,u,8,a,at40,rfl,4,ite2 (fun e=>Y21 e Dk) (fun _=>?_)
  exists 4,u,8,a,at40,rfl,4,ite2 (fun _=>?_) (fun e=>Y21 Dk e)
  exists 4,4,u,8,a,at41,Qps y (r _ (kZ ..)) ⟨_,rfl,_,rfl,u,_,_,_,rfl,rfl,a,at42,Qps y (r _ (yW _ (kZ ..))) ⟨_,rfl,u,_,_,_,rfl,rfl,a,at43,Z1 4,fun J g=>?_⟩⟩
  exact q J _ (Qb g _) (Qn upd_same)
 |sm ps=>
  obtain⟨l,a,R,U,I⟩:=id d
  exists 4,u,8,a,at0,rfl,4,ite2 (fun _=>?_) (fun e=>Y21 Dk e)
  have lv:=I.length
  rw[jQ]at lv
  have ae:ps.length<=10:=ad.1
  exists 4,u,8,a,at1,l,rfl,⟨_,U⟩,fun D hD=>?_
  let ac:Nat->St->List V->Hp->Prop:=fun i τ S W=>∃v v2:Option V,τ=[v,v2,some (.ref pl)]/\W D=some (.lst S)/\Paired (fun v (p:Int×Int)=>∃T,v=V.ref T/\SqT K W T [plV (pOf qs p.1),.int p.2]) S (ps.take i)/\S.length=i/\Same H W
  refine Z5 R (show _=ps.length from Om) ac ?_ (fun i τ S W hi h=>?_) ?_ ?_
  .exact⟨none,none,rfl,upd_same,.nil,rfl,Qb hD _⟩
  .obtain⟨v,v2,rfl,Z,Y,N,L⟩:=h
   exists ⟨Z,Om⟩,L.seq U
  .rintro i τ S W x H3 hi ⟨v,v2,rfl,Z,Y,N,L⟩ ⟨rfl,e1⟩
   obtain⟨T,c,w,rfl,ec,hT⟩:=Yw I (e1 _ (L.seq U)) L
   have hm:c∈(DL.sm ps).names:=zJ.mpr ⟨(c,w),kK ec,rfl⟩
   exists T,4,hT,rfl,_,4,7,4,4,Qps (L.seq y) (r _ hm) ⟨_,rfl,Z1 2,fun t2 aa=>?_⟩
   have a3:=Qb aa (.tup [plV (pOf qs c),.int w])
   have O:=a3 _ _ Z
   exists O,_,4,upd_same,?_,by rw[jV,N];rfl,fun b o e=>?_
   .rw[Zh ec]
    exact Paired.snoc (Paired.mapP Y fun _ _ ⟨T,e,z⟩=>⟨T,e,Xv O (a3.tup z)⟩) ⟨t2,rfl,Xv O (Qn upd_same)⟩
   .rw[Qj (Qi e hD)];exact a3 _ _ (L _ _ e)
  rintro τ S W ⟨v,v2,rfl,Z,Y,N,L⟩
  rw[zX (jJ _)]at Y
  exists Z1 2,fun J g=>?_
  have G:=Qb g (.tup [.str "sum",.ref D])
  exact q J _ (L.trans G) ⟨D,S,hD,Qn upd_same,G _ _ Z,Paired.mapP Y fun _ _ ⟨T,e,z⟩=>⟨T,e,G.tup z⟩⟩
def Zc(m:Nat)(r:Rw):Rw:=(r.1++qg m 0,r.2)
abbrev SK:=List (Option Rw×Bool)
def Kv(m:Nat)(z:Rw)(S:SK):List Rw:=S.map fun p=>Zc m (p.1.getD z)
def Qsj(rs:List Rw)(cs:List Int)(best:Option Int)(W:List Rw)(ln:DL)(r:Rw):Prop:=match ln with
 |.giv _=>r∈rs
 |ln=>rowL rs cs best W ln=some r
abbrev stay(S:SK)(k:Int):Bool:=(S.getD k.toNat (none,false)).2
open Classical in
def Kw(rs:List Rw)(cs:List Int)(best:Option Int)(rs2:List Rw)(cs2:List Int)(best2:Option Int)(m:Nat)(z:Rw)(S:SK)(ln:DL):Option Rw×Bool :=
 match rowT rs cs best (S.map (·.1)) (dlD ln)with
 |none=>(none,false)
 |some r=>(some r,decide ((∀k∈ln.names,stay S k=true)/\Qsj rs2 cs2 best2 (Kv m z S) ln (Zc m r)))
def Jd(rs:List Rw)(cs:List Int)(best:Option Int)(rs2:List Rw)(cs2:List Int)(best2:Option Int)(m:Nat)(z:Rw)(lns:List DL):SK:=lns.foldl (fun S ln=>S++[Kw rs cs best rs2 cs2 best2 m z S ln]) []
theorem Qdu{z:Rw}:Jd rs cs best rs2 cs2 best2 m z (lns++[ln])=Jd rs cs best rs2 cs2 best2 m z lns++[Kw rs cs best rs2 cs2 best2 m z (Jd rs cs best rs2 cs2 best2 m z lns) ln]:=by
 unfold Jd;rw[jZa];rfl
theorem Vl{z:Rw}(b:List DL):(Jd rs cs best rs2 cs2 best2 m z b).length=b.length:=by
 unfold Jd
 suffices h:∀(l:List DL) (S:SK),(l.foldl (fun S c=>S++[Kw rs cs best rs2 cs2 best2 m z S c]) S).length=S.length+l.length by
  rw[h];simp
 intro l
 induction l with
 |nil=>intro S;rfl
 |cons a l ih=>intro S;rw[jKb,ih,jV,zV];simp;lia
structure CrM(m:Nat)(S:SK)(pl:List (Option Nat))(told:List Rw):Prop where
 len:pl.length=S.length
 yes:∀(k:Nat) (o:Option Rw),S[k]?=some (o,true)->∃r j,o=some r/\pl[k]?=some (some j)/\told[j]?=some (Zc m r)
 no:∀(k:Nat) (o:Option Rw),S[k]?=some (o,false)->pl[k]?=some none
theorem CrM.more{S:SK}{told told':List Rw}(h:CrM m S pl told)(p:∀(j:Nat) r,told[j]?=some r->told'[j]?=some r):CrM m S pl told' :=
 ⟨h.len,fun k o e=>let ⟨r,j,a,b,c⟩:=h.yes k o e;⟨r,j,a,b,p _ _ c⟩,h.no⟩
theorem CrM.snoc{m:Nat}{S:SK}{pl:List (Option Nat)}{told:List Rw}{o:Option Rw}{b:Bool}{p:Option Nat}(h:CrM m S pl told)(s:b=true->∃r j,o=some r/\p=some j/\told[j]?=some (Zc m r))(u:b=false->p=none):CrM m (S++[(o,b)]) (pl++[p]) told:=by
 have i:=h.len
 have at1:∀{k:Nat} {q},(S++[(o,b)])[k]?=some q->(k<S.length/\S[k]?=some q/\(pl++[p])[k]?=pl[k]?)\/(q=(o,b)/\(pl++[p])[k]?=some p):=by
  intro k q e
  by_cases c:k<S.length
  .rw[xW c]at e
   exact .inl ⟨c,e,xW Om⟩
  .have l:=(jW.mp e).1
   rw[jV]at l
   have t:k<S.length+1:=l
   have n:k=S.length:=Om
   subst n
   rw[xJ (jJ _),jKe]at e
   cases e
   exact .inr ⟨rfl,by rw[<-i,xJ (jJ _),jKe];rfl⟩
 exists by rw[jV,jV,i];rfl,fun k g e=>?_,fun k g e=>?_
 .rcases at1 e with⟨_,d,f⟩ | ⟨d,f⟩
  .obtain⟨r,j,a,b,c⟩:=h.yes k g d;exists r,j,a,by rw[f];exact b,c
  .cases d
   obtain⟨r,j,a,b,c⟩:=s rfl
   exists r,j,a,by rw[f,b],c
 .rcases at1 e with⟨_,d,f⟩ | ⟨d,f⟩
  .rw[f];exact h.no k g d
  .cases d
   rw[f,u rfl]
section
variable{S:SK}{told:List Rw}
theorem CrM.placed(h:CrM m S pl told)(i:∀k∈ln.names,0<=k/\k<(S.length:Int)):Qda pl ln↔∀k∈ln.names,stay S k=true:=by
 have c:∀k∈ln.names,((pOf pl k).isSome=true↔stay S k=true):=fun k a=>by
  obtain⟨p,n⟩:=i k a
  have e:k.toNat<S.length:=Om
  have l:S.getD k.toNat (none,false)=S[k.toNat]:=by rw[jY,gE e];rfl
  unfold stay pOf
  rw[l,jY]
  have d:=gE e
  obtain⟨o,b,g⟩:∃o b,S[k.toNat]=(o,b):=⟨_,_,rfl⟩
  rw[g]at d⊢
  cases b with
  |true=>obtain⟨r,j,_,f,_⟩:=h.yes _ _ d;rw[f];exists fun _=>rfl,fun _=>rfl
  |false=>rw[h.no _ _ d];exists fun z=>(nomatch z),fun z=>(nomatch z)
 exists fun z k a=>(c k a).mp (z k a),fun z k a=>(c k a).mpr (z k a)
theorem Good.up(h:Good n hs)(l:n<=n'):Good n' hs:=⟨h.nd,fun p a=>by have:=h.ok p a;lia⟩
theorem DLok.up(h:DLok n ln)(l:n<=n'):DLok n' ln:=by
 cases ln with
 |sht o hs=>exists h.1,h.2.up l
 |giv k=>exact h
 |low k=>exact h
 |high k=>exact h
 |bet=>exact h
 |no=>exact h
 |sm ps=>exact h
 |shr o b=>exact h
 |eit o p c=>exact h
 |lik t=>exact h
theorem CrM.row(h:CrM m S pl told)(z:Rw)(u:DLok cs.length ln)(l:∀k∈ln.names,0<=k/\k<(S.length:Int))(c:Qda pl ln)(B:told.length<=1000):rowT rs cs best (told.map some) (renD pl ln)=rowL rs cs best (Kv m z S) ln/\DLok cs.length (ln.ren (plF pl)):=by
 have t:=(h.placed l).mp c
 have d:∀k∈ln.names,InH (Kv m z S) k/\InH told (plF pl k)/\rowK told (plF pl k).toNat=rowK (Kv m z S) k.toNat:=fun k f=>by
  obtain⟨w,v⟩:=l k f
  have p:k.toNat<S.length:=Om
  have g:=t k f
  unfold stay at g
  rw[jY,gE p]at g
  have i:=gE p
  obtain⟨o,b,s⟩:∃o b,S[k.toNat]=(o,b):=⟨_,_,rfl⟩
  rw[s]at i
  have x:b=true:=by rw[s]at g;exact g
  subst x
  obtain⟨r,j,rfl,y,q⟩:=h.yes _ _ i
  have n:plF pl k=((j:Nat):Int):=by unfold plF pOf;rw[jY,y];rfl
  have A:=(jW.mp q).1
  exists ⟨w,by unfold Kv;rw[jQ];exact v⟩,by rw[n];exact⟨Om,Om⟩,?_
  rw[n,jQc]
  unfold rowK Kv
  rw[jY,q,jY,jZ,i]
  rfl
 have e:DLok cs.length (ln.ren (plF pl)):=Qpj u fun k f=>by
  obtain⟨_,⟨a,b⟩,_⟩:=d k f
  exists a,Om
 exists by rw[Qpq c,Qbm e];exact Qiq d,e
end
inductive spWid(K:Fg)(vs:List V)(H:Hp)(Q:VK)(E:XK):Prop|mk(t:Addr)(r:Rw)(m:Nat)(_:vs=[.ref t,.int ((m:Nat):Int)])(_:RowAt K H t r)(_:r.1.length<=100)(_:m<=100)(_:∀(t':Addr) (H':Hp),Same H H'->RowAt K H' t' (Zc m r)->Q (.ref t') H'):spWid K vs H Q E
theorem Qau(s:Same H H')(e:H' l=none):H l=none:=by
 cases c:H l with
 |none=>rfl
 |some o=>rw[s _ _ c]at e;cases e
def Wh(rs:List Rw)(cs:List Int)(best:Option Int)(a:List DL×List Rw)(z:Int):List DL×List Rw :=
 match rowL rs cs best a.2 (Qcx cs.length rs.length (a.2.length:Int) z)with
 |none=>a
 |some r=>(a.1++[Qcx cs.length rs.length (a.2.length:Int) z],a.2++[r])
def papF(rs:List Rw)(cs:List Int)(best:Option Int)(zs:List Int):List DL×List Rw:=zs.foldl (Wh rs cs best) ([],[])
theorem Qpt(rs:List Rw)(cs:List Int)(best:Option Int){zs:List Int}{z:Int}(h:zs[i]?=some z):papF rs cs best (zs.take (i+1))=Wh rs cs best (papF rs cs best (zs.take i)) z:=by
 unfold papF;rw[Qov h,jZa];rfl
theorem Qsk(rs:List Rw)(cs:List Int)(best:Option Int)(zs:List Int):(papF rs cs best zs).1.length<=zs.length:=by
 unfold papF
 suffices h:∀(l:List Int) (a:List DL×List Rw),(l.foldl (Wh rs cs best) a).1.length<=a.1.length+l.length by
  have:=h zs ([],[])
  simpa using this
 intro l
 induction l with
 |nil=>intro a;exact jJ _
 |cons z l ih=>
  intro a
  rw[jKb,zV]
  have c:=ih (Wh rs cs best a z)
  have b:(Wh rs cs best a z).1.length<=a.1.length+1:=by
   unfold Wh
   split
   .omega
   .rw[jV];exact jJ _
  lia
inductive Qpu(K:Fg)(vs:List V)(H:Hp)(Q:VK)(E:XK):Prop|mk(t c:Addr)(rs:List Rw)(cs:List Int)(best:Option Int)(zs:List Int)(_:vs=[.ref t,Xm best,.ref c])(_:ProbAt K H t rs cs)(_:(∀r∈rs,r.1.length=cs.length))(_:SqL K H c (zs.map V.int))(_:zs.length<=100)(_:cs.length<=20)(_:rs.length<=20)(_:∀(g:Addr) (us:List V) (H':Hp),Same H H'->H g=none->H' g=some (.lst us)->LinesAt K H' us (papF rs cs best zs).1->Right rs cs best (papF rs cs best zs).1 (papF rs cs best zs).2->(papF rs cs best zs).1.length<=100->Q (.ref g) H'):Qpu K vs H Q E
inductive Qtt(K:Fg)(vs:List V)(H:Hp)(Q:VK)(E:XK):Prop|mk(t L:Addr)(rs hd:List Rw)(cs:List Int)(best:Option Int)(us:List V)(lns:List DL)(_:vs=[.ref t,Xm best,.ref L])(_:ProbAt K H t rs cs)(_:(∀r∈rs,r.1.length=cs.length))(_:SqL K H L us)(_:LinesAt K H us lns)(_:Right rs cs best lns hd)(_:cs.length<=20)(_:rs.length<=20)(_:lns.length<=2000)(_:∀(g:Addr) (ws:List V) (H':Hp),Same H H'->H g=none->H' g=some (.lst ws)->RowsAre K H' ws hd->Q (.ref g) H'):Qtt K vs H Q E
inductive Qtu(K:Fg)(vs:List V)(H:Hp)(Q:VK)(E:XK):Prop|mk(t l c:Addr)(ws:List V)(_:vs=[.ref t])(_:SqT K H t [.ref l,.ref c])(_:SqL K H l ws)(_:(∃cs:List V,SqT K H c cs))(_:∀(T g:Addr) (H':Hp),Same H H'->H T=none->H g=none->SqT K H' T [.ref g,.ref c]->H' g=some (.lst ws)->Q (.ref T) H'):Qtu K vs H Q E
abbrev sNm:Stmt:=top 64
theorem dl_cut{u:Addr}(h:DLAt K H u ln):∃xs,SqT K H u (.str (Vw ln)::xs)/\(¬Vw ln="sum"->¬Vw ln="either"->(qg (Int.toNat (if inV (.str (Vw ln)) (qA 0)=true then 1 else 0)) (xs.take 1)).flatten=ln.names.map V.int):=by
 cases ln with
 |sm ps=>obtain⟨l,a,_⟩:=h;exists _,a,fun z=>Y21 rfl z
 |sht o hs=>obtain⟨l,a,_⟩:=h;exists _,a,fun _ _=>by show(qg (Int.toNat (if inV (.str "shut") (qA 0)=true then 1 else 0)) _).flatten=_;rw[Y22 Dk];rfl
 |lik t=>obtain⟨l,a,_⟩:=h;exists _,a,fun _ _=>by show(qg (Int.toNat (if inV (.str "like") (qA 0)=true then 1 else 0)) _).flatten=_;rw[Y20 Dk];rfl
 |giv k=>exists _,h,fun _ _=>by show(qg (Int.toNat (if inV (.str "given") (qA 0)=true then 1 else 0)) _).flatten=_;rw[Y20 Dk];rfl
 |low k=>exists _,h,fun _ _=>by show(qg (Int.toNat (if inV (.str "low") (qA 0)=true then 1 else 0)) _).flatten=_;rw[Y20 Dk];rfl
 |high k=>exists _,h,fun _ _=>by show(qg (Int.toNat (if inV (.str "high") (qA 0)=true then 1 else 0)) _).flatten=_;rw[Y20 Dk];rfl
 |bet=>exists _,h,fun _ _=>by show(qg (Int.toNat (if inV (.str "better") (qA 0)=true then 1 else 0)) _).flatten=_;rw[Y20 Dk];rfl
 |no=>exists _,h,fun _ _=>by show(qg (Int.toNat (if inV (.str "no") (qA 0)=true then 1 else 0)) _).flatten=_;rw[Y20 Dk];rfl
 |shr o b=>exists _,h,fun _ _=>by show(qg (Int.toNat (if inV (.str "share") (qA 0)=true then 1 else 0)) _).flatten=_;rw[Y22 Dk];rfl
 |eit o p c=>exists _,h,fun _ z=>Y21 rfl z
theorem cut12(x:V)(xs:List V):cutV (x::xs) (some 1) (some 2)=xs.take 1:=by
 cases xs with
 |nil=>rfl
 |cons y ys=>unfold cutV;cases ys<;>simp[HT.sIx]<;>rfl
inductive spNm(K:Fg)(vs:List V)(H:Hp)(Q:VK)(E:XK):Prop|mk(u:Addr)(ln:DL)(n:Nat)(_:vs=[.ref u])(_:DLAt K H u ln)(_:DLok n ln)(_:n<=20)(_:∀(g:Addr) (H':Hp),Same H H'->H g=none->H' g=some (.lst (ln.names.map V.int))->Q (.ref g) H'):spNm K vs H Q E
theorem scNm:FnScope ["_law_line"] ["_law_line"] (Qf sNm):=Sc
theorem okNm(F:Fn K mg "_law_named" sNm)(M:Mg mg):qC 1 "_law_named" ["_law_line"] (spNm K):=by
 refine Xf F scNm (a:=fun f ad A X s H vs Q E hr h=>?_)
 obtain⟨u,B,n,rfl,r,ab,hn,q⟩:=h
 refine⟨_,(Qd (Xg (Qr Yh (Qo Qm (pv 0) Qe) Xj (Qs _)) (Qh (Qp (Zn ["_law_part"] [none] rfl (Xq (Qo Qm (pv 0) Qe)) (fun _ _ _=>(Z3 0 Z2)) (fun _ _ _=>Yc) (fun _ _ _=>(Qo (Zz (K:=K) rfl) (pv 0) Qe))))) Qq)
  (Qd (Xg (Qr Yh (Qo Qm (pv 0) Qe) Xj (Qs _)) (Qh (Qp (Xo (Qa (Qo Qm (pv 0) Qe) (Qa (Qo Qm (pv 0) Qe) Qc))))) Qq)
  (Qh (Qp (Qu Vb (Qz Zk rfl M.list_ Yu (Qa (Yi Qdj (pv 0) (Yj Qe) (Yj Qe)) Qc)) (Qz Jp rfl M.int_ Vc (Qa (Xz Wl (Qo Qm (pv 0) Qe) (Qy (Qa Xj (Qa Xj Qc))) rfl) Qc))))))),?_⟩
 exists"z"
 obtain⟨d,S,N⟩:=dl_cut r
 exists 4,u,8,S,atW,rfl,4,ite2 (fun y=>?_) (fun y=>?_)
 .obtain⟨Y,rfl⟩:=wd_sm (eqStr y)
  obtain⟨l,U,ws,j,L⟩:=id r
  have lv:=L.length
  rw[jQ]at lv
  have ac:Y.length<=10:=ab.1
  exists 4,u,8,U,at1,l,rfl,⟨_,j⟩,fun D hD=>?_
  let I:Nat->St->List V->Hp->Prop:=fun i C t k=>∃v:Option V,C=[v]/\k D=some (.lst t)/\t=((Y.take i).map (·.1)).map V.int/\Same H k
  refine Yg (n:=Y.length) I ?_ (fun i C t k hi h=>?_) (fun i C t k hi h=>?_) (fun C t k h=>?_) ?_ ?_
  .exact⟨none,rfl,upd_same,rfl,Qb hD _⟩
  .obtain⟨v,rfl,m,rfl,a⟩:=h
   exists m,by rw[jQ,jQ,yY];lia
  .obtain⟨v,rfl,m,rfl,a⟩:=h
   exists ws,ws[i]'Om,a.seq j,gE Om
  .obtain⟨v,rfl,m,rfl,a⟩:=h
   exists ws,a.seq j,Om
  .rintro i C t k x H3 hi ⟨v,rfl,m,rfl,a⟩ ⟨rfl,e1⟩
   obtain⟨T,c,w,rfl,ec,hT⟩:=Yw L (e1 _ (a.seq j)) a
   exists 4,T,8,hT,at0,m,4,upd_same,?_,fun b o e=>?_
   .rw[Zh ec,kY,kY];rfl
   .rw[Qj (Qi e hD)];exact a _ _ e
  rintro C t k ⟨v,rfl,m,rfl,a⟩
  rw[wJ]at m
  exact q D k a hD m
 exists 4,u,8,S,atW,rfl,4,ite2 (fun y2=>?_) (fun y2=>?_)
 .obtain⟨o,p,c,rfl⟩:=Qtr (eqStr y2)
  have U:SqT K H u _:=r
  exists 4,u,8,U,at41,4,u,8,U,at42,Z1 2,fun g J=>?_
  exact q g _ (Qb J _) J upd_same
 exists 4,4,4,u,4,S,fun z=>kZc 0 z.1,fun R aa=>?_
 rw[cut12]
 have a1:=Qb aa (.tup (d.take 1))
 have b1:upd H R (.tup (d.take 1)) R=some (.tup (d.take 1)):=upd_same
 generalize upd H R (.tup (d.take 1))=J1 at a1 b1⊢
 exists R,4,.inr (Qn b1),fun O Z=>?_
 have a2:=Qb Z (.lst (d.take 1))
 have b2:upd J1 O (.lst (d.take 1)) O=some (.lst (d.take 1)):=upd_same
 generalize upd J1 O (.lst (d.take 1))=J2 at a2 b2⊢
 exists 4,u,8,(a1.trans a2).tup S,atW,Z1 2,fun T hT=>?_
 have W:=Qb hT (.tup (qA 0))
 have b3:SqT K (upd J2 T (.tup (qA 0))) T (qA 0):=Qn upd_same
 generalize upd J2 T (.tup (qA 0))=J3 at W b3⊢
 exists T,4,.inr b3,rfl,rfl,.inr ⟨_,rfl,?_⟩
 have G:=(a1.trans a2).trans W
 have l1:(d.take 1).length<=1:=by rw[yY];lia
 have ht:=N (Qlw y) (Qlw y2)
 have hk:(if inV (.str (Vw B)) (qA 0)=true then(1:Int)else 0)=0\/(if inV (.str (Vw B)) (qA 0)=true then(1:Int)else 0)=1:=by split<;>simp
 show rRep (.ref O) (.int (if inV (.str (Vw B)) (qA 0)=true then(1:Int)else 0)) J3 _
 generalize (if inV (.str (Vw B)) (qA 0)=true then(1:Int)else 0)=kk at ht hk⊢
 exists O,kk,4,rfl,W _ _ b2,Om,Om,?_,fun g J=>?_
 .rcases hk with e | e<;>rw[e]
  .show _*0<=_;lia
  .show _*1<=_;lia
 .rw[ht]
  have a4:=Qb J (.lst (B.names.map V.int))
  exact q g _ (G.trans a4) (Qau G J) upd_same
abbrev Qsl:Stmt:=top 41
abbrev Qsm:Stmt:=top 42
abbrev Qkj:Stmt:=top 43
abbrev Qsn:Stmt:=top 44
abbrev Bits(x:Int):Prop:=PySem.Builtin.Int.intBits x<=2 ^ 20
theorem bits0:Bits 0:=Dc
inductive Qdb(K:Fg)(vs:List V)(H:Hp)(Q:VK)(E:XK):Prop|mk(a:Addr)(ns:List Int)(k:Int)(_:vs=[.ref a,.int k])(_:SqL K H a (ns.map V.int))(_:(∀n∈ns,Bits n))(_:0<=k)(_:∀z:Int,Bits z->Q (.int z) H):Qdb K vs H Q E
inductive Qtv(vs:List V)(H:Hp)(Q:VK)(E:XK):Prop|mk(c k:Int)(_:vs=[.int c,.int k])(_:Bits c)(_:0<=k)(_:k<=1000000)(_:∀z:Int,0<=z->z<2147483587->Q (.int z) H):Qtv vs H Q E
inductive Qiw(K:Fg)(vs:List V)(H:Hp)(Q:VK)(E:XK):Prop|mk(a:Addr)(ns:List Int)(k:Int)(_:vs=[.ref a,.int k])(_:SqL K H a (ns.map V.int))(_:(∀n∈ns,Bits n))(_:0<=k)(_:∀(l:Addr) (x f:Int),H l=none->Bits x->Q (.ref l) (upd H l (.lst [.int x,.int f,.int 0]))):Qiw K vs H Q E
inductive Qpv(vs:List V)(H:Hp)(Q:VK)(E:XK):Prop|mk(l:Addr)(x f k b:Int)(_:vs=[.ref l,.int b])(_:H l=some (.lst [.int x,.int f,.int k]))(_:Bits x)(_:0<=k)(_:k<=100000)(_:0<b)(_:b<=1000000)(_:∀z x':Int,Bits x'->0<=z->z<b->Q (.int z) (upd H l (.lst [.int x',.int f,.int (k+1)]))):Qpv vs H Q E
theorem atNsB{k:Int}(b:∀n∈ns,Bits n)(d:0<=k)(h:k<(((ns.map V.int).length:Nat):Int)):∃v:Int,atI (ns.map V.int) k=some (.int v)/\Bits v:=by
 have a:k.toNat<ns.length:=by rw[jQ]at h;lia
 have c:k=((k.toNat:Nat):Int):=Om
 have q:atI (ns.map V.int) ((k.toNat:Nat):Int)=some (.int ns[k.toNat]):=Zx (by rw[jZ,gE a]<;>rfl)
 rw[<-c]at q
 exists _,q,b _ (jYa a)
theorem upd_upd(H:Hp)(l:Addr)(a b:HO):upd (upd H l a) l b=upd H l b:=by
 funext c
 by_cases e:c=l
 .rw[e,upd_same,upd_same]
 .rw[Qj e,Qj e,Qj e]
theorem base3(z:Int):∃b:Int,atI [V.int 3,V.int 5,V.int 9] (z % 3)=some (.int b)/\0<b/\b<=9:=by
 rcases(show z % 3=0\/z % 3=1\/z % 3=2 by lia)with e | e | e
 .rw[e];exists 3,rfl,Dc,Dc
 .rw[e];exists 5,rfl,Dc,Dc
 .rw[e];exists 9,rfl,Dc,Dc
def ProbT(K:Fg)(H:Hp)(t:Addr)(rs:List Rw)(cs:List Int):Prop:=∃l c vs,SqT K H t [.ref l,.ref c]/\H l=some (.lst vs)/\RowsAre K H vs rs/\SqT K H c (cs.map V.int)
theorem ProbT.at{t:Addr}(h:ProbT K H t rs cs):ProbAt K H t rs cs:=by obtain⟨l,c,a,d,b,e,f⟩:=h;exists l,c,a,d,Qg b,e,f
inductive Qdc(K:Fg)(vs:List V)(H:Hp)(Q:VK)(E:XK):Prop|mk(a:Addr)(ns:List Int)(most rm:Int)(_:vs=[.ref a,.int most,.int rm])(_:SqL K H a (ns.map V.int))(_:(∀n∈ns,Bits n))(_:0<=most)(_:most<=100)(_:0<=rm)(_:rm<=100)(_:∀(t:Addr) (rs:List (List Int×Int)) (cs:List Int) (H':Hp),Same H H'->ProbT K H' t rs cs->(∀r∈rs,r.1.length=cs.length)->(cs.length:Int)<=most->(rs.length:Int)<=rm->Q (.ref t) H'):Qdc K vs H Q E
theorem scMixB:FnScope ["_law_number","_law_k","_law_mixed"] ["_law_number","_law_k"] (Qf Qsl):=Sc
theorem okMixB(F:Fn K mg "_law_mix" Qsl)(M:Mg mg):qC 1 "_law_mix" ["_law_number","_law_k"] (Qtv):=by
 refine Xf F scMixB (a:=fun f d A a s H e Q E l h=>?_)
 obtain⟨c,k,rfl,b,m,j,q⟩:=h
 refine⟨_,(Qd (Z4 2 scMixB.nd (Qu Yl (Qu Qak (Qu Yp (Qu Yp (Qu Qak (pv 0) (pv 0)) (Qu Qak (pv 1) (pv 0))) (Qu Qak (Qu Qak Qe (pv 1)) (pv 1))) Qe) Qe))
  (Qh (Qp (Qu Yl (Qu Qak (pv 2) (pv 2)) Qe)))),?_⟩
 have i:∀x:Int,-(2 ^ 64)<x % 2147483629/\x % 2147483629<2 ^ 64:=fun x=>⟨Om,Om⟩
 have g:∀x:Int,PySem.IntMulOk k x:=fun x=>(show CMul k x from .inl ⟨Om,Om⟩).ok
 exists 4,4,7,PySem.IntMulOk.of_bits b b,4,4,7,g _,7,4,7,(show CMul 7 k from .inl ⟨Dc,Dc⟩).ok,4,7,(show CMul (7*k) k from .inr ⟨Om,Om⟩).ok,7,7,(show CMul _ 1103515245 from .inr ⟨Dc,Dc⟩).ok,7,Z0,?_
 exists 4,4,7,(show CMul _ _ from .inl (i _)).ok,7,Z0,q _ (jQf _ Dc) (jQa _ Dc)
theorem scCell:FnScope ["_law_script","_law_k"] ["_law_script","_law_k"] (Qf Qsm):=Sc
theorem okCell(F:Fn K mg "_law_cell_at" Qsm)(M:Mg mg):qC 1 "_law_cell_at" ["_law_script","_law_k"] (Qdb K):=by
 refine Xf F scCell (a:=fun f e A b s H g Q E n h=>?_)
 obtain⟨a,j,k,rfl,d,i,l,q⟩:=h
 refine⟨_,(Qd (Xg (Qr Qft (pv 1) (qL (pv 0)) (Qs _)) (Qh (Qp (Qo ix_list (pv 0) (pv 1)))) Qq)
  (Qh (Qp Qe))),?_⟩
 exists 4,4,a,4,.inl d,7,4,?_
 refine ite2 (fun c=>?_) (fun c=>?_)
 .obtain⟨v,hv,m⟩:=atNsB i l (yQ c)
  exists 4,4,a,8,d,hv,q v m
 .exact q 0 bits0
theorem Qvq:FnScope ["_law_script","_law_k"] ["_law_script","_law_k"] (Qf Qkj):=Sc
theorem Qvr(F:Fn K mg "_law_left" Qkj)(M:Mg mg)(b:qC 1 "_law_cell_at" ["_law_script","_law_k"] (Qdb K)):qC 2 "_law_left" ["_law_script","_law_k"] (Qiw K):=by
 refine Xf F Qvq (fun _ _ _ _ _ _=>Zo (fun _ _=>rfl)) (fun m H Q E h=>?_) (fun f j A d s H m Q E g h=>?_)
 .obtain⟨a,c,k,rfl,_⟩:=h
  rfl
 obtain⟨a,c,k,rfl,i,e,o,q⟩:=h
 exists _,(Qh (Qp (Xo (Qa (Xc b (g.mono Dc) (Qa (pv 0) (Qa (pv 1) Qc))) (Qa (Qu Yl (Xc b (g.mono Dc) (Qa (pv 0) (Qa Qe Qc))) Qe) (Qa Qe Qc)))))),?_
 exists 4,4,a,c,k,rfl,i,e,o,fun x p=>?_
 exists 4,a,c,0,rfl,i,e,Dc,fun z _=>⟨_,_,rfl,rfl,Z0,Z1 3,fun l n=>q l x _ n p⟩
theorem scDraw:FnScope ["_law_left_here","_law_base","_law_digit"] ["_law_left_here","_law_base"] (Qf Qsn):=Sc
theorem okDraw(F:Fn K mg "_law_draw" Qsn)(M:Mg mg)(d:qC 1 "_law_mix" ["_law_number","_law_k"] (Qtv)):qC 2 "_law_draw" ["_law_left_here","_law_base"] (Qpv):=by
 refine Xf F scDraw (a:=fun f o A j s H p Q E u h=>?_)
 obtain⟨l,x,g,k,b,rfl,m,i,C,B,e,r,q⟩:=h
 refine⟨_,(Qd (Zp (Qu Yp (Qo ix_list (pv 0) Qe) Qe) (Kx (pv 0) Qe set_list))
  (Qd (Xg (Qr Yh (Qo ix_list (pv 0) Qe) Qe (Qs _)) (Qh (Qp (Qu Yl (Xc d (u.mono Dc) (Qa (Qo ix_list (pv 0) Qe) (Qa (Qo ix_list (pv 0) Qe) Qc))) (pv 1)))) Qq)
  (Qd (Z4 2 scDraw.nd (Qu Yl (Qo ix_list (pv 0) Qe) (pv 1)))
  (Qd (Zp (Qu Wr (Qo ix_list (pv 0) Qe) (pv 1)) (Kx (pv 0) Qe set_list))
  (Qh (Qp (pv 2))))))),?_⟩
 refine Wv ?_;intros
 exists 4,l,8,Qg m,rfl,7,4,l,_,_,2,rfl,rfl,m,rfl,?_
 have a:upd H l (.lst [.int x,.int g,.int (k+1)]) l=some (.lst [.int x,.int g,.int (k+1)]):=upd_same
 exists 4,l,8,Qg a,rfl,rfl,4,ite2 (fun c=>?_) (fun c=>?_)
 .refine⟨_,rfl,l,_,_,_,rfl,rfl,Qg a,rfl,_,rfl,l,_,_,_,rfl,rfl,Qg a,rfl,x,k+1,rfl,i,Om,Om,fun z _ _=>⟨_,rfl,_,_,rfl,rfl,e,q _ _ i (jQf _ Om) (jQa _ e)⟩⟩
 .refine⟨_,rfl,l,_,_,_,rfl,rfl,Qg a,rfl,_,rfl,_,_,rfl,rfl,e,?_⟩
  exists 4,l,8,Qg a,rfl,4,7,big1 e r,4,l,_,_,0,rfl,rfl,a,rfl,?_
  have:=q (x % b) (x.fdiv b) (PyProof.Rows.bits_fdiv i) (jQf _ Om) (jQa _ e)
  rw[<-upd_upd H l (.lst [.int x,.int g,.int (k+1)])]at this
  exists 4,this
abbrev Vu:Stmt:=top 45
theorem scProblem20:FnScope ["_law_script","_law_most_here","_law_rows_most","_law_cell","_law_many","_law_base","_law_rows","_law_k","_law_left_here","_law_numbers"] ["_law_script","_law_most_here","_law_rows_most"] (Qf Vu):=Sc
theorem Qix(F:Fn K mg "_law_problem" Vu)(M:Mg mg)(J:qC 1 "_law_cell_at" ["_law_script","_law_k"] (Qdb K))(I:qC 2 "_law_left" ["_law_script","_law_k"] (Qiw K))(u:qC 2 "_law_draw" ["_law_left_here","_law_base"] (Qpv)):qC 3 "_law_problem" ["_law_script","_law_most_here","_law_rows_most"] (Qdc K):=by
 refine Xf F scProblem20 (a:=fun f an A ak s H vs Q E hr h=>?_)
 obtain⟨a,ns,d,rm,rfl,hS,hB,m0,m1,r0,r1,q⟩:=h
 refine⟨_,(Qd (Z4 3 scProblem20.nd (Qu Zq (Xc J (hr.mono Dc) (Qa (pv 0) (Qa Qe Qc))) Qe))
  (Qd (Z4 4 scProblem20.nd (Qu Yl (pv 3) (Qu Yp (pv 1) Qe)))
  (Qd (Z4 5 scProblem20.nd (Qo ix_list (Xo (Qa Qe (Qa Qe (Qa Qe Qc)))) (Qu Yl (Qu Zq (pv 3) Qe) Qe)))
  (Qd (Z4 6 scProblem20.nd (Xo Qc))
  (Qd (Yo PassesOwn.never rfl (Yt rfl M.range_ (Qa (Qu Yl (Qu Zq (pv 3) Qe) (Qu Yp (pv 2) Qe)) Qc)) (Z3 7 scProblem20.nd) (Qd (Z4 8 scProblem20.nd (Xc I (hr.mono Dc) (Qa (pv 0) (Qa (Qu Yp Qe (pv 7)) Qc))))
  (Qd (Z4 9 scProblem20.nd (Qz Xb rfl M.tuple_ Xp (Qa (Zn ["_law_i","_law_base","_law_left_here"] [none,some 5,some 8] rfl (Yt rfl M.range_ (Qa (pv 4) Qc)) (fun _ _ _=>(Z3 0 (show(["_law_i","_law_base","_law_left_here"]:List Str).Nodup by decide +kernel))) (fun _ _ _=>Yc) (fun _ _ _=>(Qu Ys (Xc u (hr.mono Dc) (Qa (pv 2) (Qa (pv 1) Qc))) (Qu Zq (pv 1) Qe)))) Qc)))
  (Qh (Yn (Va Y1 Y2 Y3 Xx (pv 6) (Qa (Qy (Qa (pv 9) (Qa (Qu Yp (Qu Ys (Xc u (hr.mono Dc) (Qa (pv 8) (Qa (Qu Wj Qe (pv 5)) Qc))) (pv 5)) Qe) Qc))) Qc)))))))
  (Qd (Z4 8 scProblem20.nd (Xc I (hr.mono Dc) (Qa (pv 0) (Qa Qe Qc))))
  (Qh (Qp (Qy (Qa (pv 6) (Qa (Qz Xb rfl M.tuple_ Xp (Qa (Zn ["_law_i","_law_base","_law_left_here"] [none,some 5,some 8] rfl (Yt rfl M.range_ (Qa (pv 4) Qc)) (fun _ _ _=>(Z3 0 (show(["_law_i","_law_base","_law_left_here"]:List Str).Nodup by decide +kernel))) (fun _ _ _=>Yc) (fun _ _ _=>(Qu Ys (Xc u (hr.mono Dc) (Qa (pv 2) (Qa (pv 1) Qc))) (Qu Zq (pv 1) Qe)))) Qc)) Qc))))))))))),?_⟩
 refine Qeo ?_;intros
 exists"z"
 exists 4,a,ns,0,rfl,hS,hB,Dc,fun C _=>⟨_,_,rfl,rfl,⟨Dc,Dc⟩,?_⟩
 exists 4,4,7,7,by show 0<d+1;lia,?_
 have n0:=jQf (C / 2) (show d+1≠0 by lia)
 have n1:=jQa (C / 2) (show 0<d+1 by lia)
 exists Z1 3,fun p hp=>?_
 obtain⟨b,hb,b0,b1⟩:=base3 ((C / 2) / 100)
 exists 4,7,⟨Dc,Dc⟩,7,Z0,p,8,Qg upd_same,hb,?_
 exists Z1 0,fun g fg=>?_
 have s1:Same H (upd (upd H p (.lst [.int 3,.int 5,.int 9])) g (.lst [])):=(Qb hp _).trans (Qb fg _)
 have gH:H g=none:=by
  cases e5:H g with
  |none=>rfl
  |some o=>rw[Qb hp (.lst [.int 3,.int 5,.int 9]) _ _ e5]at fg;cases fg
 have c0:=jQf ((C / 2) / 10) (show rm+1≠0 by lia)
 have c1:=jQa ((C / 2) / 10) (show 0<rm+1 by lia)
 exists 4,7,⟨Dc,Dc⟩,4,7,7,by show 0<rm+1;lia,?_
 let af:Nat->St->Hp->Prop:=fun i σ T=>∃(rs:List (List Int×Int)) (vs:List V) (u1 u2 u3:Option V),σ=[some (.ref a),some (.int d),some (.int rm),some (.int (C / 2)),some (.int ((C / 2) % (d+1))),some (.int b),some (.ref g),u1,u2,u3]/\T g=some (.lst vs)/\RowsAre K T vs rs/\(∀r∈rs,(r.1.length:Int)=(C / 2) % (d+1))/\rs.length=i/\Same H T
 refine⟨((C / 2) / 10 % (rm+1)),rfl,Om,Om,Kb (lo:=0) (n:=((C / 2) / 10 % (rm+1)).toNat) af
  ⟨[],[],none,none,none,rfl,upd_same,.nil,(fun r hr=>nomatch hr),rfl,s1⟩ ?_ ?_⟩
 .rintro i σ T hi ⟨rs,vs,u1,u2,u3,rfl,hg,Z,ab,rfl,s2⟩
  have lv:=Z.length
  exists 4,4,7,a,ns,4,s2.seq hS,hB,Om,fun l x f Y hx=>?_
  have ao:g≠l:=Qi hg Y
  exists 4,(C / 2) % (d+1),rfl,Om,Om,fun D O=>?_
  have nD:D≠l:=fun w=>by rw[w,upd_same]at O;cases O
  let ai:Nat->St->List V->Hp->Prop:=fun j R N m=>∃(v:Option V) (k:List Int) (x:Int),R=[v,some (.int b),some (.ref l)]/\N=k.map V.int/\k.length=j/\m D=some (.lst N)/\m l=some (.lst [.int x,.int f,.int (j:Int)])/\Bits x/\∀c o,T c=some o->m c=some o
  refine Yg (n:=((C / 2) % (d+1)).toNat) ai
   ?_ (fun j R N m hj h=>?_) (fun j R N m hj h=>hj) (fun R N m h=>jJ _) ?_ ?_
  .exact⟨none,[],x,rfl,rfl,rfl,upd_same,by rw[Qj (Ne.symm nD)];exact upd_same,hx,fun c o e=>by rw[Qj (fun w=>by rw[w]at e;rw[Qj (Qi e Y)]at O;rw[O]at e;cases e),Qj (Qi e Y)];exact e⟩
  .obtain⟨v,k,x,rfl,rfl,rfl,B,G,L,U⟩:=h
   exists B,by rw[jQ];lia
  .rintro j R N m y H6 hj ⟨v,k,x,rfl,rfl,rfl,B,G,L,U⟩ ⟨rfl,rfl⟩
   exists 4,4,l,x,f,_,b,rfl,G,L,Om,Om,b0,Om,fun C x' W z0 z1=>⟨_,rfl,_,_,rfl,rfl,⟨Dc,Dc⟩,_,_,rfl,rfl,by rw[Qj nD];exact B,_,k++[_],x',rfl,by rw[kY];rfl,by rw[jV];rfl,upd_same,by rw[Qj (Ne.symm nD),upd_same];rfl,W,fun c o e=>?_⟩
   have c1:c≠l:=Qi e Y
   have c2:c≠D:=fun w=>by rw[w]at e;rw[Qj nD]at O;rw[O]at e;cases e
   rw[Qj c2,Qj c1]
   exact U c o e
  .rintro R N m ⟨v,k,x,rfl,rfl,al,B,G,L,U⟩
   exists D,4,.inl ⟨Qg B,fun S aa=>?_⟩
   have X:∀c o,T c=some o->upd m S (.tup (k.map V.int)) c=some o:=fun c o e=>by rw[Qj (Qi (U c o e) aa)];exact U c o e
   have ac:upd m S (.tup (k.map V.int)) l=some (.lst [.int x,.int f,.int (((C / 2) % (d+1)).toNat:Nat)]):=by rw[Qj (Qi G aa)];exact G
   have aj:SqT K (upd m S (.tup (k.map V.int))) S (k.map V.int):=Qn upd_same
   generalize upd m S (.tup (k.map V.int))=H6 at X ac aj⊢
   have s6:Same T H6:=X
   exists 4,.inl ⟨rfl,_,Qg (s6 _ _ hg)⟩,4,4,4,7,.inl ⟨Dc,Dc⟩,l,x,f,_,2*b,rfl,ac,L,Om,Om,Om,Om,fun y x' W _ _=>?_
   have ag:SqT K (upd H6 l (.lst [.int x',.int f,.int ((((C / 2) % (d+1)).toNat:Nat)+1)])) S (k.map V.int):=Xv ac aj
   have s7:Same T (upd H6 l (.lst [.int x',.int f,.int ((((C / 2) % (d+1)).toNat:Nat)+1)])):=fun c o e=>by rw[Qj (Qi e Y)];exact s6 _ _ e
   generalize upd H6 l (.lst [.int x',.int f,.int ((((C / 2) % (d+1)).toNat:Nat)+1)])=H7 at ag s7⊢
   exists 4,7,7,Z1 2,fun t ft=>?_
   have s8:=Qb ft (.tup [.ref S,.int (y-b+1)])
   have ad:=s8 _ _ (s7 _ _ hg)
   exists g,7,ad,Om,rs++[(k,y-b+1)],_,_,_,4,upd_same,?_,fun r ae=>?_,by rw[jV];rfl,fun c o e=>?_
   .exact RowsAre.snoc (Z.imp fun _ _ w=>((w.same s7).same s8).upd ad) (RowAt.upd ad ⟨S,Qn upd_same,s8.tup ag⟩)
   .rcases xK.mp ae with w | w
    .exact ab r w
    .rw[kW.mp w];show(k.length:Int)=_;lia
   .rw[Qj (Qi e gH)];exact s8 _ _ (s7 _ _ (s2 _ _ e))
 .rintro σ T ⟨rs,vs,u1,u2,u3,rfl,hg,Z,ab,aw,s2⟩
  exists 4,a,ns,4,s2.seq hS,hB,Dc,fun l x f Y hx=>?_
  exists 4,?_
  exists 4,(C / 2) % (d+1),rfl,Om,Om,fun D O=>?_
  have nD:D≠l:=fun w=>by rw[w,upd_same]at O;cases O
  let ah:Nat->St->List V->Hp->Prop:=fun j R N m=>∃(v:Option V) (k:List Int) (x:Int),R=[v,some (.int b),some (.ref l)]/\N=k.map V.int/\k.length=j/\m D=some (.lst N)/\m l=some (.lst [.int x,.int f,.int (j:Int)])/\Bits x/\∀c o,T c=some o->m c=some o
  refine Yg (n:=((C / 2) % (d+1)).toNat) ah
   ?_ (fun j R N m hj h=>?_) (fun j R N m hj h=>hj) (fun R N m h=>jJ _) ?_ ?_
  .exact⟨none,[],x,rfl,rfl,rfl,upd_same,by rw[Qj (Ne.symm nD)];exact upd_same,hx,fun c o e=>by rw[Qj (fun w=>by rw[w]at e;rw[Qj (Qi e Y)]at O;rw[O]at e;cases e),Qj (Qi e Y)];exact e⟩
  .obtain⟨v,k,x,rfl,rfl,rfl,B,G,L,U⟩:=h
   exists B,by rw[jQ];lia
  .rintro j R N m y H6 hj ⟨v,k,x,rfl,rfl,rfl,B,G,L,U⟩ ⟨rfl,rfl⟩
   exists 4,4,l,x,f,_,b,rfl,G,L,Om,Om,b0,Om,fun C x' W z0 z1=>⟨_,rfl,_,_,rfl,rfl,⟨Dc,Dc⟩,_,_,rfl,rfl,by rw[Qj nD];exact B,_,k++[_],x',rfl,by rw[kY];rfl,by rw[jV];rfl,upd_same,by rw[Qj (Ne.symm nD),upd_same];rfl,W,fun c o e=>?_⟩
   have c1:c≠l:=Qi e Y
   have c2:c≠D:=fun w=>by rw[w]at e;rw[Qj nD]at O;rw[O]at e;cases e
   rw[Qj c2,Qj c1]
   exact U c o e
  .rintro R N m ⟨v,k,x,rfl,rfl,al,B,G,L,U⟩
   exists D,4,.inl ⟨Qg B,fun S aa=>?_⟩
   have X:∀c o,T c=some o->upd m S (.tup (k.map V.int)) c=some o:=fun c o e=>by rw[Qj (Qi (U c o e) aa)];exact U c o e
   exists Z1 2,fun t ft=>?_
   have s6:Same T (upd m S (.tup (k.map V.int))):=X
   have s7:=Qb ft (.tup [.ref g,.ref S])
   exact q t rs k _ ((s2.trans s6).trans s7) ⟨g,S,vs,Qn upd_same,s7 _ _ (s6 _ _ hg),Z.imp fun _ _ w=>(w.same s6).same s7,s7.tup (Qn upd_same)⟩ (fun r ae=>by have:=ab r ae;lia) Om Om
abbrev sWid:Stmt:=top 37
abbrev sCrI:Stmt:=inClass (top 38) 0
abbrev sCrB:Stmt:=inClass (top 38) 1
abbrev sCrP:Stmt:=inClass (top 38) 2
structure CrA where
 (pr ot O Pl L T Kn Nu:Addr)
def crL(a:CrA)(best best2:Option Int)(m:Int)(x:Str):Option V :=
 if x="numbers" then some (.ref a.Nu)else if x="known" then some (.ref a.Kn)else if x="told" then some (.ref a.T)else if x="lines" then some (.ref a.L)
 else if x="places" then some (.ref a.Pl)else if x="old" then some (.ref a.O)else if x="more" then some (.int m)else if x="other_best" then some (Xm best2)
 else if x="other" then some (.ref a.ot)else if x="best" then some (Xm best)else if x="problem" then some (.ref a.pr)else none
section
variable(a:CrA)(best best2:Option Int)(m:Int)
theorem cl_nu:crL a best best2 m "numbers"=some (.ref a.Nu):=Y22 rfl
theorem Qso:crL a best best2 m "known"=some (.ref a.Kn):=by unfold crL;repeat (first | exact Y22 rfl | rw[Y20 Dk])
theorem cl_td:crL a best best2 m "told"=some (.ref a.T):=by unfold crL;repeat (first | exact Y22 rfl | rw[Y20 Dk])
theorem Qvs:crL a best best2 m "lines"=some (.ref a.L):=by unfold crL;repeat (first | exact Y22 rfl | rw[Y20 Dk])
theorem Qsp:crL a best best2 m "places"=some (.ref a.Pl):=by unfold crL;repeat (first | exact Y22 rfl | rw[Y20 Dk])
theorem Qvt:crL a best best2 m "old"=some (.ref a.O):=by unfold crL;repeat (first | exact Y22 rfl | rw[Y20 Dk])
theorem cl_mo:crL a best best2 m "more"=some (.int m):=by unfold crL;repeat (first | exact Y22 rfl | rw[Y20 Dk])
theorem cl_ob:crL a best best2 m "other_best"=some (Xm best2):=by unfold crL;repeat (first | exact Y22 rfl | rw[Y20 Dk])
theorem cl_ot:crL a best best2 m "other"=some (.ref a.ot):=by unfold crL;repeat (first | exact Y22 rfl | rw[Y20 Dk])
theorem cl_be:crL a best best2 m "best"=some (Xm best):=by unfold crL;repeat (first | exact Y22 rfl | rw[Y20 Dk])
theorem cl_pr:crL a best best2 m "problem"=some (.ref a.pr):=by unfold crL;repeat (first | exact Y22 rfl | rw[Y20 Dk])
theorem cl_no(h:¬x="numbers"/\¬x="known"/\¬x="told"/\¬x="lines"/\¬x="places"/\¬x="old"/\¬x="more"/\¬x="other_best"/\¬x="other"/\¬x="best"/\¬x="problem"):crL a best best2 m x=none:=by
 obtain⟨k,j,l,n,g,i,f,e,d,b,c⟩:=h
 unfold crL
 rw[Y20 k,Y20 j,Y20 l,Y20 n,Y20 g,Y20 i,Y20 f,Y20 e,Y20 d,Y20 b,Y20 c]
end
structure CrTxt(K:Fg)(mg:Z9)(C:Addr):Prop where
 cl:Cls K C
 na:∀x∈(["problem","best","other","other_best","more","old","places","lines","told","known","numbers"]:List Str),NoAttr K C x
 mgC:mg "Carrier"=some (.ref C)
structure Two(rs:List Rw)(cs:List Int)(rs2:List Rw)(cs2:List Int)(m:Nat):Prop where
 l1:∀r∈rs,r.1.length=cs.length
 l2:∀r∈rs2,r.1.length=cs2.length
 n1:cs.length+m=cs2.length
 n2:cs2.length<=20
 m1:rs.length<=20
 m2:rs2.length<=20
structure CrAt(P:Program)(w:World)(K:Fg)(C:Addr)(H0 H1 H:Hp)(p:Addr)(a:CrA)(rs:List Rw)(cs:List Int)(best:Option Int)(rs2:List Rw)(cs2:List Int)(best2:Option Int)(m:Nat)(olds:List (Option Rw))(pl:List (Option Nat))(lns:List DL)(told:List Rw):Prop where
 ob:∃dx fs,H p=some (.ins C dx fs)/\∀x,fs.lookup x=crL a best best2 ((m:Nat):Int) x
 pr:ProbAt K H0 a.pr rs cs
 ot:ProbAt K H0 a.ot rs2 cs2
 od:∃ws,H a.O=some (.lst ws)/\OptRows K H ws olds
 pc:H a.Pl=some (.lst (pl.map plV))
 ln:∃us,H a.L=some (.lst us)/\LinesN K H1 H us lns
 td:∃ws,H a.T=some (.lst ws)/\RowsAre K H ws told
 kn:∃kvs,RD P w K H a.Kn kvs/\kvs.map (·.1)=told/\∀(i:Nat) r,told[i]?=some r->valV kvs r=some (.int ((i:Nat):Int))
 nu:∃kvs,RD P w K H a.Nu kvs/\∀r,(valV kvs r=none/\r∉rs2)\/∃i:Nat,valV kvs r=some (.int ((i:Nat):Int))/\rs2[i]?=some r
 ds:a.O≠a.Pl/\a.O≠a.L/\a.O≠a.T/\a.Pl≠a.L/\a.Pl≠a.T/\a.L≠a.T/\a.Kn≠a.Nu
 f0:H0 a.O=none/\H0 a.Pl=none/\H0 a.L=none/\H0 a.T=none/\H0 a.Kn=none
 f1:H1 a.O≠none/\H1 a.Pl≠none/\H1 a.L≠none/\H1 a.T≠none/\H1 a.Kn≠none
 ba:Same H0 H
 h1:∀l,H l=none->H1 l=none
 rt:Right rs2 cs2 best2 lns told
 two:Two rs cs rs2 cs2 m
 ol:∀r,some r∈olds->r.1.length=cs.length
 tl:told.length<=olds.length
 pj:∀j,some j∈pl->j<told.length
theorem Zs{d c:Addr}(r:RD P w K H d kvs)(z:SqT K H c ys):SqT K (upd H d ob) c ys:=by
 obtain⟨o,_,_,_,a,_⟩:=r.ex
 rcases z with(z | ⟨b,z⟩) | z
 .exact .inl (.inl (by rw[Qj (Kt z a (by intro w;cases w))];exact z))
 .exact .inl (.inr ⟨b,by rw[Qj (Kt z a (by intro w;cases w))];exact z⟩)
 .exact .inr z
theorem DLN.updE{u d:Addr}(h:DLN K H0 H u ln)(r:RD P w K H d kvs)(m:H0 d≠none):DLN K H0 (upd H d ob) u ln:=by
 have ne:∀l,H0 l=none->l≠d:=fun l e z=>m (by rw[<-z];exact e)
 have j:∀{vs:List V} {ps:List (Int×V)},PairsAre K H vs ps->PairsAre K (upd H d ob) vs ps:=fun z=>Paired.mapP z fun _ _ ⟨t,e,y⟩=>⟨t,e,Zs r y⟩
 cases ln with
 |sm ps=>obtain⟨l,g,n,f,a,i⟩:=h;exists l,g,n,Zs r f,by rw[Qj (ne l n)];exact a,j i
 |sht o hs=>obtain⟨l,g,n,f,a,i⟩:=h;exists l,g,n,Zs r f,by rw[Qj (ne l n)];exact a,j i
 |lik ts=>obtain⟨l,n,f,a⟩:=h;exists l,n,Zs r f,by rw[Qj (ne l n)];exact a
 |giv k=>exact Zs r h
 |low k=>exact Zs r h
 |high k=>exact Zs r h
 |bet=>exact Zs r h
 |no=>exact Zs r h
 |shr o b=>exact Zs r h
 |eit o p c=>exact Zs r h
theorem Qpw{κ:Type}[DecidableEq κ]{kvs:List (κ×V)}{ks:List κ}{k:κ}(b:k∉ks)(h:kvs.map (·.1)=ks):(putK kvs k v).map (·.1)=ks++[k]:=by
 unfold putK
 rw[Y20 (fun z=>b (by
  obtain⟨q,a,e⟩:=kQf.mp z
  rw[<-h]
  exact zJ.mpr ⟨q,a,yQ e⟩)),kY,h]
 rfl
section
variable{p:Addr}{a:CrA}{told:List Rw}
theorem CrAt.same(h:CrAt P w K C H0 H1 H p a rs cs best rs2 cs2 best2 m olds pl lns told)(s:Same H H'):CrAt P w K C H0 H1 H' p a rs cs best rs2 cs2 best2 m olds pl lns told:=by
 obtain⟨⟨b,fs,f,R⟩,M,i,⟨O,d,J⟩,g,⟨D,S,Q⟩,⟨v,E,x⟩,⟨k,N,B⟩,⟨y,n,G⟩,u,A,I,F,L,j,two,r,q,t⟩:=h
 exact⟨⟨b,fs,s _ _ f,R⟩,M,i,⟨O,s _ _ d,OptRows.same J fun _ _ z=>z.same s⟩,s _ _ g,⟨D,s _ _ S,LinesN.imp Q fun _ _ z=>z.same s⟩,⟨v,s _ _ E,x.imp fun _ _ z=>z.same s⟩,⟨k,N.same s,B⟩,⟨y,n.same s,G⟩,u,A,I,F.trans s,fun l e=>L l (by
  cases c:H l with
  |none=>rfl
  |some o=>rw[s _ _ c]at e;cases e),j,two,r,q,t⟩
theorem Qag{o':HO}(a:H g=some o)(e:upd H g o' l=none):H l=none:=by
 by_cases c:l=g
 .rw[c,upd_same]at e;cases e
 .rw[Qj c]at e;exact e
theorem Zt(s:Same H0 H)(h:H0 g=none):Same H0 (upd H g o):=fun b a e=>by rw[Qj (Qi e h)];exact s _ _ e
theorem CrAt.putO(h:CrAt P w K C H0 H1 H p a rs cs best rs2 cs2 best2 m olds pl lns told){o:Option Rw}(hv:match o with | none=>v=.non | some r=>∃t,v=.ref t/\RowAt K H t r)(F:∀r,o=some r->r.1.length=cs.length) :
  ∃ws,H a.O=some (.lst ws)/\ws.length=olds.length/\CrAt P w K C H0 H1 (upd H a.O (.lst (ws++[v]))) p a rs cs best rs2 cs2 best2 m (olds++[o]) pl lns told:=by
 obtain⟨⟨j,fs,c,X⟩,T,n,⟨ws,b,i⟩,k,⟨J,Y,W⟩,⟨D,L,E⟩,⟨s,U,I⟩,⟨G,u,Q⟩,d,f,g,M,R,q,two,x,Z,B⟩:=h
 obtain⟨N,S,V,e4,e5,e6,e7⟩:=id d
 exists ws,b,Paired.length i,⟨j,fs,by rw[Qj (Kt c b (by intro z;cases z))];exact c,X⟩,T,n,⟨_,upd_same,Paired.snoc (OptRows.same i fun _ _ z=>z.upd b) ?_⟩,by rw[Qj (Ne.symm N)];exact k,⟨J,by rw[Qj (Ne.symm S)];exact Y,LinesN.imp W fun _ _ z=>z.updL b g.1⟩,⟨D,by rw[Qj (Ne.symm V)];exact L,E.imp fun _ _ z=>z.upd b⟩,⟨s,U.updL b,I⟩,⟨G,u.updL b,Q⟩,d,f,g,Zt M f.1,fun l e=>R l (Qag b e),q,two,fun r A=>?_,by rw[jV];lia,B
 .cases o with
  |none=>exact hv
  |some r=>obtain⟨t,e,z⟩:=hv;exists t,e,z.upd b
 .rcases xK.mp A with y | y
  .exact x r y
  .exact F r (kW.mp y).symm
theorem CrAt.putP(h:CrAt P w K C H0 H1 H p a rs cs best rs2 cs2 best2 m olds pl lns told){o:Option Nat}(I:∀j,o=some j->j<told.length):CrAt P w K C H0 H1 (upd H a.Pl (.lst ((pl++[o]).map plV))) p a rs cs best rs2 cs2 best2 m olds (pl++[o]) lns told:=by
 obtain⟨⟨k,fs,d,W⟩,S,q,⟨U,n,Q⟩,b,⟨J,X,V⟩,⟨B,L,D⟩,⟨s,T,F⟩,⟨E,t,O⟩,f,g,i,M,R,r,two,v,u,x⟩:=h
 obtain⟨N,Z,e3,G,A,e6,Y⟩:=id f
 exists ⟨k,fs,by rw[Qj (Kt d b (by intro z;cases z))];exact d,W⟩,S,q,⟨U,by rw[Qj N];exact n,OptRows.same Q fun _ _ z=>z.upd b⟩,upd_same,⟨J,by rw[Qj (Ne.symm G)];exact X,LinesN.imp V fun _ _ z=>z.updL b i.2.1⟩,⟨B,by rw[Qj (Ne.symm A)];exact L,D.imp fun _ _ z=>z.upd b⟩,⟨s,T.updL b,F⟩,⟨E,t.updL b,O⟩,f,g,i,Zt M g.2.1,fun l e=>R l (Qag b e),r,two,v,u,fun j c=>?_
 rcases xK.mp c with y | y
 .exact x j y
 .exact I j (kW.mp y).symm
theorem CrAt.putL(h:CrAt P w K C H0 H1 H p a rs cs best rs2 cs2 best2 m olds pl lns told){t u:Addr}{r:Rw}(ht:RowAt K H t r)(hu:DLN K H1 H u ln)(ho:DLok cs2.length ln)(hr:rowL rs2 cs2 best2 told ln=some r)(S:r∉told)(hl:told.length+1<=olds.length)(Z:RD P w K H a.Kn kvs)(G:kvs.map (·.1)=told)(I:∀(i:Nat) r,told[i]?=some r->valV kvs r=some (.int ((i:Nat):Int)))
  (M:RD P w K (upd H a.Kn ob) a.Kn (putK kvs r (.int (told.length:Int)))) (k:∀t q,RowAt K H t q->RowAt K (upd H a.Kn ob) t q) :
  ∃us ws,H a.L=some (.lst us)/\us.length=told.length/\upd H a.Kn ob a.L=some (.lst us)/\upd (upd H a.Kn ob) a.L (.lst (us++[.ref u])) a.T=some (.lst ws)/\ws.length=told.length/\CrAt P w K C H0 H1 (upd (upd (upd H a.Kn ob) a.L (.lst (us++[.ref u]))) a.T (.lst (ws++[.ref t]))) p a rs cs best rs2 cs2 best2 m olds pl (lns++[ln]) (told++[r]):=by
 obtain⟨⟨dx,fs,o,o2⟩,pr,ot,⟨ws,N,d2⟩,O,⟨us,B,l2⟩,⟨n,F,W⟩,_,⟨Y,R,n2⟩,U,s,A,ba,h1,Q,two,ol,tl,pj⟩:=h
 obtain⟨e1,e2,e3,e4,e5,e6,e7⟩:=id U
 obtain⟨ko,_,_,_,J,_⟩:=id Z.ex
 obtain⟨no,_,_,_,nh,_⟩:=id R.ex
 have y:∀{g:Addr} {xs:List V},H g=some (.lst xs)->g≠a.Kn:=fun e=>Kt e J (by intro z;cases z)
 have np:p≠a.Kn:=Kt o J (by intro z;cases z)
 have d:upd H a.Kn ob a.L=some (.lst us):=by rw[Qj (y B)];exact B
 have D:upd H a.Kn ob a.T=some (.lst n):=by rw[Qj (y F)];exact F
 have b:upd (upd H a.Kn ob) a.L (.lst (us++[.ref u])) a.T=some (.lst n):=by rw[Qj (Ne.symm e6)];exact D
 have lu:=Paired.length l2
 have lr:=Q.length
 have lt:=Paired.length W
 have E:RD P w K (upd H a.Kn ob) a.Nu Y:=R.keep (by rw[Qj (Ne.symm e7)]) k
 have f:∀v q,RowAt K H v q->RowAt K (upd (upd (upd H a.Kn ob) a.L (.lst (us++[.ref u]))) a.T (.lst (n++[.ref t]))) v q:=fun v q z=>by
  have z1:=k _ _ z
  have z2:RowAt K (upd (upd H a.Kn ob) a.L (.lst (us++[.ref u]))) v q:=z1.upd d
  exact z2.upd b
 have dl:∀x l,DLN K H1 H x l->DLN K H1 (upd (upd (upd H a.Kn ob) a.L (.lst (us++[.ref u]))) a.T (.lst (n++[.ref t]))) x l:=fun x l z=>((z.updE Z A.2.2.2.2).updL d A.2.2.1).updL b A.2.2.2.1
 exists us,n,B,Om,d,b,Om,⟨dx,fs,?_,o2⟩,pr,ot,⟨ws,?_,OptRows.same d2 f⟩,?_,⟨_,?_,Paired.snoc (LinesN.imp l2 dl) ⟨u,rfl,dl _ _ hu⟩⟩,⟨_,upd_same,RowsAre.snoc (W.imp fun _ _ z=>f _ _ z) (f _ _ ht)⟩,⟨_,(M.updL d).updL b,?_,?_⟩,⟨Y,(E.updL d).updL b,n2⟩,U,s,A,Zt (Zt (Zt ba s.2.2.2.2) s.2.2.1) s.2.2.2.1,fun l e=>h1 l (Qag J (Qag d (Qag b e))),Q.snoc ho hr,two,ol,by rw[jV];exact hl,fun j hj=>by rw[jV];have:=pj j hj;lia
 .rw[Qj (Kt o F (by intro z;cases z)),Qj (Kt o B (by intro z;cases z)),Qj np];exact o
 .rw[Qj e3,Qj e2,Qj (y N)];exact N
 .rw[Qj e5,Qj e4,Qj (y O)];exact O
 .rw[Qj e6,upd_same]
 .rw[Qpw S G]
 .intro i q e
  rw[Wp]
  by_cases c:i<told.length
  .rw[xW c]at e
   rw[Y20 (fun z:q=r=>S (by rw[<-z];exact kK e))]
   exact I i q e
  .have X:=(jW.mp e).1
   rw[jV]at X
   have aa:i<told.length+1:=X
   have ei:i=told.length:=Om
   subst ei
   rw[xJ (jJ _),jKe]at e
   cases e
   rw[Y22 rfl]
end
theorem Qkk{K:Fg}{H:Hp}:∀{ws:List V} {told:List Rw},RowsAre K H ws told->OptRows K H ws (told.map some)
 |_,_,.nil=>.nil
 |_,_,.cons z h=>.cons z (Qkk h)
def Qiy(rs2:List Rw)(cs2:List Int)(best2:Option Int)(told:List Rw)(pl:List (Option Nat))(ln:DL)(r:Rw):Prop:=match ln with
 |.giv _=>r∈rs2
 |ln=>rowT rs2 cs2 best2 (told.map some) (renD pl ln)=some r
inductive spCrP(P:Program)(w:World)(K:Fg)(C:Addr)(vs:List V)(H:Hp)(Q:VK)(E:XK):Prop|mk(H0 H1:Hp)(p:Addr)(a:CrA)(rs:List Rw)(cs:List Int)(best:Option Int)(rs2:List Rw)(cs2:List Int)(best2:Option Int)(m:Nat)(olds:List (Option Rw))(pl:List (Option Nat))(lns:List DL)(told:List Rw)(u t:Addr)(ln:DL)(r:Rw)(_:vs=[.ref p,.ref u,.ref t])(_:CrAt P w K C H0 H1 H p a rs cs best rs2 cs2 best2 m olds pl lns told)(_:told.length+1<=olds.length)(_:olds.length<=100)(_:DLAt K H u ln)(_:DLok cs.length ln)(_:RowAt K H t r)(_:(∀k∈ln.names,0<=k/\k<(pl.length:Int)))(_:(¬Qiy rs2 cs2 best2 told pl ln r->∀H',CrAt P w K C H0 H1 H' p a rs cs best rs2 cs2 best2 m olds pl lns told->Q .non H'))(_:(Qiy rs2 cs2 best2 told pl ln r->∀(H':Hp) (j:Nat) (lns':List DL) (told':List Rw),CrAt P w K C H0 H1 H' p a rs cs best rs2 cs2 best2 m olds pl lns' told'->told'[j]?=some r->(∀(i:Nat) q,told[i]?=some q->told'[i]?=some q)->Q (.int ((j:Nat):Int)) H')):spCrP P w K C vs H Q E
theorem scWid:FnScope ["row","more"] ["row","more"] (Qf sWid):=Sc
theorem okWid(F:Fn K mg "widened" sWid)(M:Mg mg):qC 1 "widened" ["row","more"] (spWid K):=by
 refine Xf F scWid (a:=fun f B A d s H v Q E G h=>?_)
 obtain⟨t,r,m,rfl,⟨p,n,o⟩,I,N,q⟩:=h
 exists _,(Qh (Qp (Qy (Qa (Qu Qiu (Qo Qm (pv 0) Qe) (Qu Qem (Qy (Qa Qe Qc)) (pv 1))) (Qa (Qo Qm (pv 0) Qe) Qc))))),?_
 exists"z"
 exists 4,t,8,n,at0,Z1 1,fun u g=>?_
 have D:=Qb (H:=H) g (.tup [.int 0])
 exists 4,u,((m:Nat):Int),[.int 0],rfl,rfl,Qn upd_same,Om,Om,by show 1*((m:Nat):Int).toNat<=sizeLine;lia,fun x J C c=>?_
 have e:(qg (((m:Nat):Int)).toNat [V.int 0]).flatten=(qg m (0:Int)).map V.int:=Qhh m
 rw[e]at c
 have a:=D.trans C
 exists p,x,7,a.tup o,c,by rw[jQ,jQ,zZ];lia,fun i l z j=>?_
 have b:=a.trans z
 exists 4,t,8,b.tup n,at1,Z1 2,fun T y=>?_
 have k:=Qb (H:=l) y (.tup [.ref i,.int r.2])
 refine q T _ (b.trans k) ⟨i,Qn upd_same,k.tup ?_⟩
 show SqT K l i ((r.1++qg m 0).map V.int)
 rw[kY]
 exact j
theorem scCrP:FnScope ["self","line","row","new"] ["self","line","row"] (Qf sCrP):=Sc
theorem okCrP(F:Fun K "place_of" "Carrier.place_of" sCrP f fd)(M:Mg mg)(T:CrTxt K mg C)(G:qC 6 "row_told" (qB 0) (Qcs K))(B:qC 1 "renumbered" ["line","places"] (spRen K)):FnOk P w K mg base CX0 7 f fd ["self","line","row"] (spCrP P w K C):=by
 refine F.ok scCrP (a:=fun aQ A aH s H vs Q E hr h=>?_)
 obtain⟨H0,H1,p,a,rs,cs,aj,x,o,l,m,am,W,aE,b,u,t,I,r,rfl,S,av,aS,aq,ah,ab,aM,qn,qy⟩:=h
 have au:=Z6 6 hr.un
 have aa:=Z6 2 hr.un
 refine⟨_,(Qd (Z4 3 scCrP.nd (Xc B (hr.mono Dc) (Qa (pv 1) (Qa (Zj (pv 0) rfl) Qc))))
  (Qd (Xg (Qr Yh (Qo Qm (pv 1) Qe) Xj (Qs _)) (Qh (Z4 3 scCrP.nd (Qy (Qa Xj (Qa (Qsh aa (Zj (pv 0) rfl) (pv 2) ⟨rfl,rfl,rfl,rfl⟩) Qc))))) Qq)
  (Qd (Xg (Qr (op_neN (n:=6) au) (Xc G (hr.mono Dc) (Qa (Zj (pv 0) rfl) (Qa (Zj (pv 0) rfl) (Qa (Zj (pv 0) rfl) (Qa (pv 3) Qc))))) (pv 2) (Qs _)) (Qh (Qp Xh)) Qq)
  (Qd (Xg (Qsy (Qpp aa (pv 2) (Zj (pv 0) rfl)) rfl) (Qd (Qvi aa (Zj (pv 0) rfl) (pv 2) (qL (Zj (pv 0) rfl)) rfl)
  (Qd (Yn (Va Y1 Y2 Y3 Xx (Zj (pv 0) rfl) (Qa (pv 3) Qc)))
  (Qh (Yn (Va Y1 Y2 Y3 Xx (Zj (pv 0) rfl) (Qa (pv 2) Qc)))))) Qq)
  (Qh (Qp (Qvh aa (Zj (pv 0) rfl) (pv 2) (fun _ _=>rfl)))))))),?_⟩
 exists"z"
 obtain⟨O,fs,o1,Y⟩:=S.ob
 have tw:=S.two
 have n1:=tw.n1
 have n2:=tw.n2
 exists 4,4,p,C,O,fs,4,o1,T.cl,T.na _ (by simp),(Y _).trans (Qsp ..),u,a.Pl,I,W,cs.length,rfl,aq,ah,Om,Qg S.pc,aM,fun u2 H2 s2 hN=>?_
 have S2:=S.same s2
 have ad:DLok o.length I:=ah.up Om
 refine Qfd (fun al H'=>∃(nu:Addr) (d:Dt),al=[some (.ref p),some (.ref u),some (.ref t),some (.ref nu)]/\Same H H'/\HasT K H' (.ref nu) d/\Sm d/\(Qiy x o l b W I r↔rowT x o l (b.map some) d=some r)/\(rowT x o l (b.map some) d=some r->∃D,DLN K H1 H' nu D/\DLok o.length D/\rowL x o l b D=some r)) ?_ fun REST=>?_
 rotate_left
 .have aJ:Sm (renD W I):=sm_ren Om ah fun j hj=>by have:=S.pj j hj;have:=S.tl;lia
  have ag:(∀k,I≠.giv k)->(Qiy x o l b W I r↔rowT x o l (b.map some) (renD W I)=some r):=fun ng=>by
   cases I with
   |giv k=>exact Y21 rfl (ng k)
   |_=>exact Iff.rfl
  have ap:(∀k,I≠.giv k)->rowT x o l (b.map some) (renD W I)=some r->∃D,DLN K H1 H2 u2 D/\DLok o.length D/\rowL x o l b D=some r:=fun ng e=>by
   have c:Qda W I:=Classical.byContradiction fun c=>by rw[Qpr (.inl ad) c]at e;cases e
   have ai:DLok o.length (I.ren (plF W)):=Qpj ad fun k hk=>by
    have e1:=c k hk
    unfold plF
    obtain⟨j,ej⟩:=jJa.mp e1
    rw[ej]
    have hj:j<b.length:=S.pj j (by
     unfold pOf at ej
     rw[jY]at ej
     cases c5:W[k.toNat]? with
     |none=>rw[c5]at ej;cases ej
     |some y=>rw[c5]at ej;have e':y=some j:=ej;rw[e']at c5;exact kK c5)
    have:=S.tl
    exists by show(0:Int)<=((j:Nat):Int);lia,by show((j:Nat):Int)<1000000;lia
   rw[Qpq c,Qbm ai]at e
   exists _,(hN.dln c).older S.h1,ai,e
  obtain⟨aR,hW⟩:=Qiv aq
  exists 4,u,8,s2.tup hW,atW,rfl,4,ite2 (fun y=>?_) (fun y=>?_)
  .obtain⟨kg,rfl⟩:=Qts (eqStr y)
   obtain⟨nv,nr,nx⟩:=S2.nu
   exists 4,p,C,O,fs,4,(s2 _ _ o1),T.cl,T.na _ (by simp),(Y _).trans (cl_nu ..),a.Nu,nv,rfl,nr,4,t,nv,r,rfl,nr,ab.same s2,Z1 2,fun nu aw=>?_
   have Z:=Qb aw (.tup [.str "given",(valV nv r).getD .non])
   rcases nx r with⟨e,ni⟩ | ⟨i,e,ei⟩
   .rw[e]at Z⊢
    refine REST _ _ ⟨nu,.tup [.str "given",.non],rfl,s2.trans Z,tupT (Qn upd_same) (.cons (.str _) (.cons .non .nil)),.tup _ (Xd (.str _) (Xd .non Zl)),?_,fun z=>?_⟩
    .have e0:rowT x o l (b.map some) (.tup [.str "given",.non])=none:=(Zi rfl).trans rfl
     rw[e0]
     exists fun z=>Y21 z ni,fun z=>(nomatch z)
    .have e0:rowT x o l (b.map some) (.tup [.str "given",.non])=none:=(Zi rfl).trans rfl
     rw[e0]at z;cases z
   .rw[e]at Z⊢
    have hi:=(jW.mp ei).1
    have m2:=tw.m2
    have hg:DLok o.length (.giv ((i:Nat):Int)):=(show NB ((i:Nat):Int)from⟨Om,Om⟩)
    have e1:rowL x o l b (.giv ((i:Nat):Int))=some r:=by
     show(if InH x ((i:Nat):Int)then some (rowK x (((i:Nat):Int)).toNat)else none)=_
     rw[Y22 ⟨Om,Om⟩,jQc]
     unfold rowK
     rw[jY,ei];rfl
    have e2:rowT x o l (b.map some) (.tup [.str "given",.int ((i:Nat):Int)])=some r:=(Qbm hg).trans e1
    exact REST _ _ ⟨nu,.tup [.str "given",.int ((i:Nat):Int)],rfl,s2.trans Z,tupT (Qn upd_same) (.cons (.str _) (.cons (.int _) .nil)),.tup _ (Xd (.str _) (Xd (Ka ⟨Om,Om⟩) Zl)),⟨fun _=>e2,fun _=>kK ei⟩,fun _=>⟨.giv ((i:Nat):Int),Qn upd_same,hg,e1⟩⟩
  .have ng:∀k,I≠.giv k:=fun k z=>Qlw y (by rw[z];rfl)
   exact REST _ _ ⟨u2,renD W I,rfl,s2,hN.has,aJ,ag ng,ap ng⟩
 clear hN S2 s2 u2 H2
 rintro al H3 ⟨nu,d,rfl,Z,hd,az,X,aB⟩
 have S3:=S.same Z
 obtain⟨wt,w1,w2⟩:=S3.td
 have lt:=Paired.length w2
 have af:=Z _ _ o1
 have hJ:Jx K H3 a.ot a.T x o wt (b.map some):=⟨S3.ot.same S3.ba,Qg w1,Qkk w2,tw.l2,fun q hq=>?_,Om,by have:=tw.m2;lia,by rw[jQ];have:=S.tl;lia⟩
 rotate_left
 .obtain⟨q',aG,e⟩:=zJ.mp hq
  cases e
  exact S.rt.len tw.l2 _ aG
 exists 4,p,C,O,fs,4,af,T.cl,T.na _ (by simp),(Y _).trans (cl_ot ..),4,p,C,O,fs,4,af,T.cl,T.na _ (by simp),(Y _).trans (cl_ob ..),4,p,C,O,fs,4,af,T.cl,T.na _ (by simp),(Y _).trans (cl_td ..),4,a.ot,a.T,.ref nu,x,o,l,wt,b.map some,d,rfl,hJ,hd,az,fun _ _ _ _=>trivial,fun e H4 s4=>?_,fun N e t2 H4 s4 aA=>?_
 .obtain⟨pt,p1,p2⟩:=id ab
  exists 4,.inl ⟨t,_,rfl,rfl,(Z.trans s4).tup p1,_,rfl,iteT (qn (fun z=>?_) _ (S.same (Z.trans s4)))⟩
  rw[X.mp z]at e;cases e
 have R:=Z.trans s4
 exists 4,.inr ⟨t2,t,rowD N,rowD r,rfl,rfl,aA.hasD,(ab.same R).hasD,Qeg (n:=4) _ _,fun c hc=>⟨_,rfl,?_⟩⟩
 cases c with
 |false=>
  refine iteT (qn (fun z=>?_) _ (S.same R))
  have z':=X.mp z
  rw[e]at z'
  cases z'
  exact nomatch hc.mpr rfl
 |true=>
  obtain rfl:N=r:=Qfb (hc.mp rfl)
  have ac:=X.mpr e
  obtain⟨D,d1,d2,d3⟩:=aB e
  have S4:=S.same R
  have J:=R _ _ o1
  obtain⟨kv,k1,k2,k3⟩:=S4.kn
  have U:=ab.same R
  refine iteF ⟨_,rfl,_,rfl,p,C,O,fs,_,rfl,J,T.cl,T.na _ (by simp),(Y _).trans (Qso ..),a.Kn,t,kv,N,rfl,rfl,k1,U,_,rfl,?_⟩
  cases ev:valV kv N with
  |some v=>
   have hm:N∈b:=by
    rw[<-k2]
    have:=Vo (kvs:=kv) (k:=N)
    rw[ev]at this
    obtain⟨q,hq,eq⟩:=kQf.mp this
    exact zJ.mpr ⟨q,hq,yQ eq⟩
   obtain⟨j,hj⟩:=List.mem_iff_getElem?.mp hm
   have ek:=k3 j _ hj
   exact iteF ⟨_,rfl,p,C,O,fs,_,rfl,J,T.cl,T.na _ (by simp),(Y _).trans (Qso ..),_,rfl,a.Kn,t,kv,N,_,rfl,rfl,k1,U,ek,qy ac _ j _ _ S4 hj fun _ _ z=>z⟩
  |none=>
   have hm:N∉b:=fun hm=>by
    obtain⟨j,hj⟩:=List.mem_iff_getElem?.mp hm
    rw[k3 j _ hj]at ev;cases ev
   have lk:kv.length=b.length:=by rw[<-k2,jQ]
   obtain⟨ak,l1,l2⟩:=S4.ln
   have lu:=Paired.length l2
   have aP:=S.rt.length
   refine iteT ⟨_,rfl,p,C,O,fs,_,rfl,J,T.cl,T.na _ (by simp),(Y _).trans (Qvs ..),a.L,ak,rfl,.inl (Qg l1),_,rfl,p,C,O,fs,_,rfl,J,T.cl,T.na _ (by simp),(Y _).trans (Qso ..),_,rfl,a.Kn,t,kv,N,rfl,rfl,k1,U,Om,fun ob ao ar=>?_⟩
   have eu:(ak.length:Int)=(b.length:Int):=Om
   rw[eu]at ao
   obtain⟨us,ws,x1,x2,x3,x4,x5,S5⟩:=S4.putL (ob:=ob) U (d1.same s4) d2 d3 hm av k1 k2 k3 ao ar
   have ay:∀{g:Addr} {xs:List V},H4 g=some (.lst xs)->p≠g:=fun z=>Kt J z (by intro y;cases y)
   obtain⟨ko,_,_,_,kh,_⟩:=id k1.ex
   have an:upd H4 a.Kn ob p=some (.ins C O fs):=by rw[Qj (Kt J kh (by intro z;cases z))];exact J
   have ax:upd (upd H4 a.Kn ob) a.L (.lst (us++[.ref nu])) p=some (.ins C O fs):=by rw[Qj (ay x1)];exact an
   have aT:us.length<sizeLine/\ws.length<sizeLine:=⟨Om,Om⟩
   exists 4,p,C,O,fs,4,an,T.cl,T.na _ (by simp),(Y _).trans (Qvs ..),.inl ⟨rfl,_,Qg x3⟩,4,a.L,us,4,rfl,x3,Om,?_
   exists 4,p,C,O,fs,4,ax,T.cl,T.na _ (by simp),(Y _).trans (cl_td ..),.inl ⟨rfl,_,Qg x4⟩,4,a.T,ws,4,rfl,x4,Om,?_
   obtain⟨aF,aI,aL,aC⟩:=S5.ob
   obtain⟨aK,aD,aU,aN⟩:=S5.kn
   have ae:(b++[N])[b.length]?=some N:=by rw[xJ (jJ _),jKe];rfl
   obtain⟨w5,y1,y2⟩:=S5.td
   have aO:RowAt K (upd (upd (upd H4 a.Kn ob) a.L (.lst (us++[.ref nu]))) a.T (.lst (ws++[.ref t]))) t N:=RowAt.upd x4 (RowAt.upd x3 (ar _ _ U))
   exists 4,p,C,aF,aI,4,aL,T.cl,T.na _ (by simp),(aC _).trans (Qso ..),4,a.Kn,t,aK,N,4,rfl,aD,aO,aN _ _ ae,qy ac _ b.length _ _ S5 ae fun i q z=>by rw[xW (jW.mp z).1];exact z
inductive spCrB(P:Program)(w:World)(K:Fg)(C:Addr)(vs:List V)(H:Hp)(Q:VK)(E:XK):Prop|mk(H0 H1:Hp)(p:Addr)(a:CrA)(rs:List Rw)(cs:List Int)(best:Option Int)(rs2:List Rw)(cs2:List Int)(best2:Option Int)(m:Nat)(olds:List (Option Rw))(pl:List (Option Nat))(lns:List DL)(told:List Rw)(u:Addr)(ln:DL)(_:vs=[.ref p,.ref u])(_:CrAt P w K C H0 H1 H p a rs cs best rs2 cs2 best2 m olds pl lns told)(_:olds.length=pl.length)(_:olds.length<=90)(_:DLAt K H0 u ln)(_:DLok cs.length ln)(_:∀(H':Hp) (o:Option Rw) (q:Option Nat) (lns':List DL) (told':List Rw),o=rowT rs cs best olds (dlD ln)->CrAt P w K C H0 H1 H' p a rs cs best rs2 cs2 best2 m (olds++[o]) (pl++[q]) lns' told'->(∀(i:Nat) q,told[i]?=some q->told'[i]?=some q)->(o=none->q=none)->(∀r,o=some r->(Qiy rs2 cs2 best2 told pl ln (Zc m r)->∃j,q=some j/\told'[j]?=some (Zc m r))/\(¬Qiy rs2 cs2 best2 told pl ln (Zc m r)->q=none))->Q .non H'):spCrB P w K C vs H Q E
theorem scCrB:FnScope ["self","line","row"] ["self","line"] (Qf sCrB):=Sc
theorem okCrB{fP:Addr}{fdP:FuncData}(F:Fun K "bring" "Carrier.bring" sCrB f fd)(M:Mg mg)(T:CrTxt K mg C)(GP:FnOk P w K mg base CX0 7 fP fdP ["self","line","row"] (spCrP P w K C))(bP:Binds K fdP ["self","line","row"] [])(mP:Meth K C "place_of" fP)(b:qC 6 "row_told" (qB 0) (Qcs K))(c:qC 1 "widened" ["row","more"] (spWid K)):FnOk P w K mg base CX0 8 f fd ["self","line"] (spCrB P w K C):=by
 refine F.ok scCrB (a:=fun al A ag s H vs Q E hr h=>?_)
 obtain⟨H0,H1,p,a,rs,cs,i,aa,V,n,m,d,pl,Y,D,u,X,rfl,S,an,am,B,G,q⟩:=h
 have ai:=B.same S.ba
 refine⟨_,(Qd (Z4 2 scCrB.nd (Xc b (hr.mono Dc) (Qa (Zj (pv 0) rfl) (Qa (Zj (pv 0) rfl) (Qa (Zj (pv 0) rfl) (Qa (pv 1) Qc))))))
  (Qd (Yn (Va Y1 Y2 Y3 Xx (Zj (pv 0) rfl) (Qa (pv 2) Qc)))
  (Qh (Yn (Va Y1 Y2 Y3 Xx (Zj (pv 0) rfl) (Qa (Qja (Qr Qax (pv 2) Xh (Qs _)) Xh (Qmn (pv 0) T.cl mP GP (hr.mono Dc) bP .nil Qmt (Qa (pv 1) (Qa (Xc c (hr.mono Dc) (Qa (pv 2) (Qa (Zj (pv 0) rfl) Qc))) Qc)))) Qc)))))),?_⟩
 exists"z"
 obtain⟨dx,fs,o1,o2⟩:=S.ob
 have W:=S.two
 have n1:=W.n1
 have n2:=W.n2
 have m1:=W.m1
 obtain⟨ws,w1,w2⟩:=S.od
 have lw:=Paired.length w2
 have hJ:Jx K H a.pr a.O rs cs ws d:=⟨S.pr.same S.ba,Qg w1,w2,W.l1,S.ol,Om,Om,Om⟩
 exists 4,p,C,dx,fs,4,o1,T.cl,T.na _ (by simp),(o2 _).trans (cl_pr ..),4,p,C,dx,fs,4,o1,T.cl,T.na _ (by simp),(o2 _).trans (cl_be ..),4,p,C,dx,fs,4,o1,T.cl,T.na _ (by simp),(o2 _).trans (Qvt ..),4,a.pr,a.O,.ref u,rs,cs,i,ws,d,dlD X,rfl,hJ,Wg ai,Qir Om G,fun _ _ _ _=>trivial,fun e H2 s2=>?_,fun r e I H2 s2 R=>?_
 .have S2:=S.same s2
  obtain⟨l,J,x2,x⟩:=S2.putO (v:=.non) (o:=none) rfl (fun _ z=>nomatch z)
  exists 4,p,C,dx,fs,4,(s2 _ _ o1),T.cl,T.na _ (by simp),(o2 _).trans (Qvt ..),.inl ⟨rfl,_,Qg J⟩,4,a.O,l,4,rfl,J,Om,?_
  obtain⟨g,t,Z,U⟩:=x.ob
  exists 4,p,C,g,t,4,Z,T.cl,T.na _ (by simp),(U _).trans (Qsp ..),.inl ⟨rfl,_,Qg x.pc⟩,4,rfl,4,ite2 (fun _=>?_) (fun z=>Y21 (yJ rfl) z)
  exists a.Pl,7,x.pc,by rw[jQ];lia,?_
  have S4:=x.putP (o:=none) (fun _ z=>nomatch z)
  rw[kY]at S4
  exact q _ none none _ _ e.symm S4 (fun _ _ z=>z) (fun _=>rfl) fun r z=>nomatch z
 .have S2:=S.same s2
  have af:r.1.length=cs.length:=Qkg W.l1 S.ol e
  obtain⟨l,J,x2,x⟩:=S2.putO (v:=.ref I) (o:=some r) ⟨I,rfl,R⟩ (fun r' z=>by cases z;exact af)
  exists 4,p,C,dx,fs,4,(s2 _ _ o1),T.cl,T.na _ (by simp),(o2 _).trans (Qvt ..),.inl ⟨rfl,_,Qg J⟩,4,a.O,l,4,rfl,J,Om,?_
  obtain⟨g,t,Z,U⟩:=x.ob
  have ad:RowAt K (upd H2 a.O (.lst (l++[.ref I]))) I r:=RowAt.upd J R
  exists 4,p,C,g,t,4,Z,T.cl,T.na _ (by simp),(U _).trans (Qsp ..),.inl ⟨rfl,_,Qg x.pc⟩,4,rfl,4,ite2 (fun z=>Y21 (yQ z) (fun y=>nomatch y)) (fun _=>?_)
  have ab:DLAt K (upd H2 a.O (.lst (l++[.ref I]))) u X:=B.same x.ba
  exists 4,p,g,t,rfl,Z,(U _).trans (cl_no _ _ _ _ Dk),4,4,4,p,C,g,t,4,Z,T.cl,T.na _ (by simp),(U _).trans (cl_mo ..),I,r,m,rfl,ad,Om,Om,fun t3 H4 s4 hW=>?_
  have S4:=x.same s4
  have aj:∀k∈X.names,0<=k/\k<(pl.length:Int):=fun k hk=>by
   rw[Qfm ([],0) G]at e
   obtain⟨r0,e0,_⟩:=wQ.mp e
   have:=Vt e0 k hk
   obtain⟨h0,h1⟩:=this
   rw[jQ]at h1
   exists h0,Om
  exists H0,H1,p,a,rs,cs,i,aa,V,n,m,d++[some r],pl,Y,D,u,t3,X,Zc m r,rfl,S4,?_,?_,ab.same s4,G,hW,aj,fun ae H5 S5=>?_,fun N H5 j ak ac S5 ej ah=>?_
  .rw[jV];have:=S.tl;show _<=_+1;lia
  .rw[jV];show _+1<=_;lia
  .refine⟨a.Pl,_,_,rfl,rfl,S5.pc,by rw[jQ];lia,?_⟩
   have L:=S5.putP (o:=none) (fun _ z=>nomatch z)
   rw[kY]at L
   exact q _ (some r) none _ _ e.symm L (fun _ _ z=>z) (fun z=>nomatch z) fun r' z=>by cases z;exists fun y=>Y21 y ae,fun _=>rfl
  .refine⟨a.Pl,_,_,rfl,rfl,S5.pc,by rw[jQ];lia,?_⟩
   have L:=S5.putP (o:=some j) (fun j' z=>by cases z;exact(jW.mp ej).1)
   rw[kY]at L
   exact q _ (some r) (some j) _ _ e.symm L ah (fun z=>nomatch z) fun r' z=>by cases z;exists fun _=>⟨j,rfl,ej⟩,fun y=>Y21 N y
theorem RD.nil_keep{d:Addr}(r:RD P w K H d [])(e:H' d=H d):RD P w K H' d []:=by
 obtain⟨⟨o,g,f,m,j,i,k,l,h⟩,a,b,c⟩:=r
 cases h
 exists ⟨o,g,f,[],by rw[e];exact j,i,k,l,.nil⟩,a,b,c
def KpP(p:Addr)(H H':Hp):Prop:=∀b o,H b=some o->b≠p->H' b=some o
theorem KpP.put{p:Addr}(h:KpP p H H'):KpP p H (upd H' p o):=fun b a e n=>by rw[Qj n];exact h b a e n
theorem KpP.same{p:Addr}{H2:Hp}(h:KpP p H H')(s:Same H' H2):KpP p H H2:=fun b a e n=>s _ _ (h b a e n)
theorem KpP.none{p:Addr}(h:KpP p H H')(e:H' g=none)(n:g≠p):H g=none:=by
 cases c:H g with
 |none=>rfl
 |some o=>rw[h _ _ c n]at e;cases e
def NuI(rs2:List Rw)(kvs:List (Rw2×V))(i:Nat):Prop:=∀r,(valV kvs r=none/\r∉rs2.take i)\/∃j:Nat,valV kvs r=some (.int ((j:Nat):Int))/\rs2[j]?=some r
theorem valV_snoc{κ:Type}[DecidableEq κ]{kvs:List (κ×V)}{k x:κ}(h:valV kvs k=none):valV (kvs++[(k,v)]) x=if x=k then some v else valV kvs x:=by
 have e:putK kvs k v=kvs++[(k,v)]:=by
  unfold putK
  rw[Y20 (fun z=>by rw[Vo,h]at z;cases z)]
 rw[<-e];exact Wp ..
inductive spCrI(P:Program)(w:World)(K:Fg)(C:Addr)(vs:List V)(H:Hp)(Q:VK)(E:XK):Prop|mk(H0:Hp)(p dx pr ot:Addr)(rs:List Rw)(cs:List Int)(best:Option Int)(rs2:List Rw)(cs2:List Int)(best2:Option Int)(m:Nat)(_:vs=[.ref p,.ref pr,Xm best,.ref ot,Xm best2])(_:H p=some (.ins C dx []))(_:Same H0 H)(_:H0 p=none)(_:ProbAt K H0 pr rs cs)(_:ProbAt K H0 ot rs2 cs2)(_:Two rs cs rs2 cs2 m)(_:∀(H1:Hp) (a:CrA),CrAt P w K C H0 H1 H1 p a rs cs best rs2 cs2 best2 m [] [] [] []->Q .non H1):spCrI P w K C vs H Q E
theorem scCrI:FnScope ["self","problem","best","other","other_best","number","row"] ["self","problem","best","other","other_best"] (Qf sCrI):=Sc
theorem okCrI(F:Fun K "__init__" "Carrier.__init__" sCrI f fd)(M:Mg mg)(T:CrTxt K mg C):FnOk P w K mg base CX0 1 f fd ["self","problem","best","other","other_best"] (spCrI P w K C):=by
 refine F.ok scCrI (a:=fun dy A db s H vs Q E hr h=>?_)
 obtain⟨H0,p,G,pr,ot,rs,cs,az,cQ,cB,ak,m,rfl,dp,c9,p0,cG,ct,tw,q⟩:=h
 have c2:=Z6 2 hr.un
 refine⟨_,(Qd (Ky (pv 0) (pv 1) rfl)
  (Qd (Ky (pv 0) (pv 2) rfl)
  (Qd (Ky (pv 0) (pv 3) rfl)
  (Qd (Ky (pv 0) (pv 4) rfl)
  (Qd (Ky (pv 0) (Qu Ys (qL (Qo Qm (pv 3) Qe)) (qL (Qo Qm (pv 1) Qe))) rfl)
  (Qd (Ky (pv 0) (Xo Qc) rfl)
  (Qd (Ky (pv 0) (Xo Qc) rfl)
  (Qd (Ky (pv 0) (Xo Qc) rfl)
  (Qd (Ky (pv 0) (Xo Qc) rfl)
  (Qd (Ky (pv 0) Qpk rfl)
  (Qd (Ky (pv 0) Qpk rfl)
  (Qh (Yo PassesOwn.never rfl (Qnl true rfl M.enumerate_ (Qa (Qo Qm (pv 3) Qe) Qc)) (Yb (K:=K) (i:=5) (j:=6) rfl rfl scCrI.nd rfl rfl rfl rfl) (Qh (Yn (pe_rsd c2 (Zj (pv 0) rfl) (pv 6) (pv 5) ⟨rfl,rfl,rfl,rfl⟩)))))))))))))))),?_⟩
 exists"z"
 obtain⟨lP,cP,vP,ds,dB,dH,cX⟩:=id cG
 obtain⟨lO,cO,vO,cA,cM,cC,c0⟩:=id ct
 have b0:KpP p H0 H:=fun b o e _=>c9 _ _ e
 exists 4,4,p,C,G,[],rfl,dp,T.cl,T.na _ (by simp),by show 0<1000;decide,?_
 have co:upd H p (.ins C G (putF "problem" (.ref pr) [])) p=some (.ins C G (putF "problem" (.ref pr) [])):=upd_same
 have b1:KpP p H0 (upd H p (.ins C G (putF "problem" (.ref pr) []))):=b0.put
 obtain⟨aR,bT⟩:∃fs,fs=putF "problem" (.ref pr) []:=⟨_,rfl⟩
 have dI:aR.length<=1:=by rw[bT];have:=Xu "problem" (.ref pr) ([]:List (Str×V));exact this
 have c4:∀x:Str,aR.lookup x=if x="problem" then some (.ref pr)else none:=fun x=>by rw[bT,Xt];rfl
 rw[<-bT]at co b1⊢
 generalize upd H p (.ins C G aR)=Hs1 at co b1⊢
 exists 4,4,p,C,G,aR,rfl,co,T.cl,T.na _ (by simp),Om,?_
 have bZ:upd Hs1 p (.ins C G (putF "best" (Xm az) aR)) p=some (.ins C G (putF "best" (Xm az) aR)):=upd_same
 have b2:KpP p H0 (upd Hs1 p (.ins C G (putF "best" (Xm az) aR))):=b1.put
 obtain⟨aQ,cn⟩:∃fs,fs=putF "best" (Xm az) aR:=⟨_,rfl⟩
 have dF:aQ.length<=2:=by rw[cn];have:=Xu "best" (Xm az) aR;lia
 have dn:∀x:Str,aQ.lookup x=if x="best" then some (Xm az)else aR.lookup x:=fun x=>by rw[cn,Xt]
 rw[<-cn]at bZ b2⊢
 generalize upd Hs1 p (.ins C G aQ)=Hs2 at bZ b2⊢
 exists 4,4,p,C,G,aQ,rfl,bZ,T.cl,T.na _ (by simp),Om,?_
 have bW:upd Hs2 p (.ins C G (putF "other" (.ref ot) aQ)) p=some (.ins C G (putF "other" (.ref ot) aQ)):=upd_same
 have b3:KpP p H0 (upd Hs2 p (.ins C G (putF "other" (.ref ot) aQ))):=b2.put
 obtain⟨aS,ck⟩:∃fs,fs=putF "other" (.ref ot) aQ:=⟨_,rfl⟩
 have dE:aS.length<=3:=by rw[ck];have:=Xu "other" (.ref ot) aQ;lia
 have c1:∀x:Str,aS.lookup x=if x="other" then some (.ref ot)else aQ.lookup x:=fun x=>by rw[ck,Xt]
 rw[<-ck]at bW b3⊢
 generalize upd Hs2 p (.ins C G aS)=Hs3 at bW b3⊢
 exists 4,4,p,C,G,aS,rfl,bW,T.cl,T.na _ (by simp),Om,?_
 have bt:upd Hs3 p (.ins C G (putF "other_best" (Xm ak) aS)) p=some (.ins C G (putF "other_best" (Xm ak) aS)):=upd_same
 have b4:KpP p H0 (upd Hs3 p (.ins C G (putF "other_best" (Xm ak) aS))):=b3.put
 obtain⟨aO,cc⟩:∃fs,fs=putF "other_best" (Xm ak) aS:=⟨_,rfl⟩
 have dw:aO.length<=4:=by rw[cc];have:=Xu "other_best" (Xm ak) aS;lia
 have dh:∀x:Str,aO.lookup x=if x="other_best" then some (Xm ak)else aS.lookup x:=fun x=>by rw[cc,Xt]
 rw[<-cc]at bt b4⊢
 generalize upd Hs3 p (.ins C G aO)=Hs4 at bt b4⊢
 have em:(((cB.map V.int).length:Nat):Int)-(((cs.map V.int).length:Nat):Int)=((m:Nat):Int):=by
  rw[jQ,jQ]
  have:=tw.n1
  lia
 have c8:∀b o,H0 b=some o->Hs4 b=some o:=fun b o e=>b4 b o e (Qi e p0)
 have s0:Same H0 Hs4:=c8
 exists 4,ot,8,s0.tup cA,at1,cO,4,.inr (s0.tup c0),4,pr,8,s0.tup ds,at1,cP,4,.inr (s0.tup cX),7,?_
 dsimp only
 rw[em]
 exists 4,p,C,G,aO,rfl,bt,T.cl,T.na _ (by simp),Om,?_
 have bM:upd Hs4 p (.ins C G (putF "more" (.int ((m:Nat):Int)) aO)) p=some (.ins C G (putF "more" (.int ((m:Nat):Int)) aO)):=upd_same
 have b5:KpP p H0 (upd Hs4 p (.ins C G (putF "more" (.int ((m:Nat):Int)) aO))):=b4.put
 obtain⟨aL,bU⟩:∃fs,fs=putF "more" (.int ((m:Nat):Int)) aO:=⟨_,rfl⟩
 have dv:aL.length<=5:=by rw[bU];have:=Xu "more" (.int ((m:Nat):Int)) aO;lia
 have c7:∀x:Str,aL.lookup x=if x="more" then some (.int ((m:Nat):Int))else aO.lookup x:=fun x=>by rw[bU,Xt]
 rw[<-bU]at bM b5⊢
 generalize upd Hs4 p (.ins C G aL)=Hs5 at bM b5⊢
 exists Z1 0,fun gO bC=>?_
 have bV:=Qb bC (.lst [])
 have cN:upd Hs5 gO (.lst []) gO=some (.lst []):=upd_same
 have br:gO≠p:=fun z=>by rw[z,bM]at bC;cases bC
 have dd:H0 gO=none:=b5.none bC br
 have bP:=bV _ _ bM
 have cJ:=b5.same bV
 generalize upd Hs5 gO (.lst [])=Ha1 at bV cN bP cJ⊢
 exists 4,p,C,G,aL,rfl,bP,T.cl,T.na _ (by simp),Om,?_
 have bE:upd Ha1 p (.ins C G (putF "old" (.ref gO) aL)) p=some (.ins C G (putF "old" (.ref gO) aL)):=upd_same
 have b6:KpP p H0 (upd Ha1 p (.ins C G (putF "old" (.ref gO) aL))):=cJ.put
 have a1:upd Ha1 p (.ins C G (putF "old" (.ref gO) aL)) gO=some (.lst []):=by rw[Qj br];exact cN
 obtain⟨aI,cd⟩:∃fs,fs=putF "old" (.ref gO) aL:=⟨_,rfl⟩
 have dJ:aI.length<=6:=by rw[cd];have:=Xu "old" (.ref gO) aL;lia
 have de:∀x:Str,aI.lookup x=if x="old" then some (.ref gO)else aL.lookup x:=fun x=>by rw[cd,Xt]
 rw[<-cd]at bE b6 a1⊢
 generalize upd Ha1 p (.ins C G aI)=Hs6 at bE b6 a1⊢
 have bG:=br
 exists Z1 0,fun gP bm=>?_
 have bJ:=Qb bm (.lst [])
 have cr:upd Hs6 gP (.lst []) gP=some (.lst []):=upd_same
 have bq:gP≠p:=fun z=>by rw[z,bE]at bm;cases bm
 have dm:H0 gP=none:=b6.none bm bq
 have ca:gO≠gP:=fun z=>by rw[<-z,a1]at bm;cases bm
 have bQ:=bJ _ _ bE
 have cw:=b6.same bJ
 have be:=bJ _ _ a1
 have aV:=bG
 generalize upd Hs6 gP (.lst [])=Ha2 at bJ cr bQ cw be⊢
 exists 4,p,C,G,aI,rfl,bQ,T.cl,T.na _ (by simp),Om,?_
 have bI:upd Ha2 p (.ins C G (putF "places" (.ref gP) aI)) p=some (.ins C G (putF "places" (.ref gP) aI)):=upd_same
 have b7:KpP p H0 (upd Ha2 p (.ins C G (putF "places" (.ref gP) aI))):=cw.put
 have ai:upd Ha2 p (.ins C G (putF "places" (.ref gP) aI)) gO=some (.lst []):=by rw[Qj aV];exact be
 have a2:upd Ha2 p (.ins C G (putF "places" (.ref gP) aI)) gP=some (.lst []):=by rw[Qj bq];exact cr
 obtain⟨aD,cj⟩:∃fs,fs=putF "places" (.ref gP) aI:=⟨_,rfl⟩
 have dA:aD.length<=7:=by rw[cj];have:=Xu "places" (.ref gP) aI;lia
 have dl:∀x:Str,aD.lookup x=if x="places" then some (.ref gP)else aI.lookup x:=fun x=>by rw[cj,Xt]
 rw[<-cj]at bI b7 ai a2⊢
 generalize upd Ha2 p (.ins C G aD)=Hs7 at bI b7 ai a2⊢
 have a7:=aV
 have bL:=bq
 exists Z1 0,fun gL a9=>?_
 have bv:=Qb a9 (.lst [])
 have cH:upd Hs7 gL (.lst []) gL=some (.lst []):=upd_same
 have bx:gL≠p:=fun z=>by rw[z,bI]at a9;cases a9
 have dq:H0 gL=none:=b7.none a9 bx
 have ch:gO≠gL:=fun z=>by rw[<-z,ai]at a9;cases a9
 have cf:gP≠gL:=fun z=>by rw[<-z,a2]at a9;cases a9
 have bS:=bv _ _ bI
 have cu:=b7.same bv
 have ax:=bv _ _ ai
 have aq:=a7
 have ba:=bv _ _ a2
 have aU:=bL
 generalize upd Hs7 gL (.lst [])=Ha3 at bv cH bS cu ax ba⊢
 exists 4,p,C,G,aD,rfl,bS,T.cl,T.na _ (by simp),Om,?_
 have bH:upd Ha3 p (.ins C G (putF "lines" (.ref gL) aD)) p=some (.ins C G (putF "lines" (.ref gL) aD)):=upd_same
 have b8:KpP p H0 (upd Ha3 p (.ins C G (putF "lines" (.ref gL) aD))):=cu.put
 have S:upd Ha3 p (.ins C G (putF "lines" (.ref gL) aD)) gO=some (.lst []):=by rw[Qj aq];exact ax
 have al:upd Ha3 p (.ins C G (putF "lines" (.ref gL) aD)) gP=some (.lst []):=by rw[Qj aU];exact ba
 have aZ:upd Ha3 p (.ins C G (putF "lines" (.ref gL) aD)) gL=some (.lst []):=by rw[Qj bx];exact cH
 obtain⟨ay,cg⟩:∃fs,fs=putF "lines" (.ref gL) aD:=⟨_,rfl⟩
 have dD:ay.length<=8:=by rw[cg];have:=Xu "lines" (.ref gL) aD;lia
 have c6:∀x:Str,ay.lookup x=if x="lines" then some (.ref gL)else aD.lookup x:=fun x=>by rw[cg,Xt]
 rw[<-cg]at bH b8 S al aZ⊢
 generalize upd Ha3 p (.ins C G ay)=Hs8 at bH b8 S al aZ⊢
 have aF:=aq
 have bg:=aU
 have bB:=bx
 exists Z1 0,fun gT aP=>?_
 have bl:=Qb aP (.lst [])
 have cF:upd Hs8 gT (.lst []) gT=some (.lst []):=upd_same
 have bu:gT≠p:=fun z=>by rw[z,bH]at aP;cases aP
 have c5:H0 gT=none:=b8.none aP bu
 have cb:gO≠gT:=fun z=>by rw[<-z,S]at aP;cases aP
 have ci:gP≠gT:=fun z=>by rw[<-z,al]at aP;cases aP
 have bX:gL≠gT:=fun z=>by rw[<-z,aZ]at aP;cases aP
 have bO:=bl _ _ bH
 have cz:=b8.same bl
 have ah:=bl _ _ S
 have ae:=aF
 have aA:=bl _ _ al
 have ap:=bg
 have bf:=bl _ _ aZ
 have aY:=bB
 generalize upd Hs8 gT (.lst [])=Ha4 at bl cF bO cz ah aA bf⊢
 exists 4,p,C,G,ay,rfl,bO,T.cl,T.na _ (by simp),Om,?_
 have bK:upd Ha4 p (.ins C G (putF "told" (.ref gT) ay)) p=some (.ins C G (putF "told" (.ref gT) ay)):=upd_same
 have b9:KpP p H0 (upd Ha4 p (.ins C G (putF "told" (.ref gT) ay))):=cz.put
 have D:upd Ha4 p (.ins C G (putF "told" (.ref gT) ay)) gO=some (.lst []):=by rw[Qj ae];exact ah
 have O:upd Ha4 p (.ins C G (putF "told" (.ref gT) ay)) gP=some (.lst []):=by rw[Qj ap];exact aA
 have aj:upd Ha4 p (.ins C G (putF "told" (.ref gT) ay)) gL=some (.lst []):=by rw[Qj aY];exact bf
 have a5:upd Ha4 p (.ins C G (putF "told" (.ref gT) ay)) gT=some (.lst []):=by rw[Qj bu];exact cF
 obtain⟨av,ce⟩:∃fs,fs=putF "told" (.ref gT) ay:=⟨_,rfl⟩
 have dG:av.length<=9:=by rw[ce];have:=Xu "told" (.ref gT) ay;lia
 have cV:∀x:Str,av.lookup x=if x="told" then some (.ref gT)else ay.lookup x:=fun x=>by rw[ce,Xt]
 rw[<-ce]at bK b9 D O aj a5⊢
 generalize upd Ha4 p (.ins C G av)=Hs9 at bK b9 D O aj a5⊢
 have ao:=ae
 have aG:=ap
 have bd:=aY
 have bF:=bu
 refine fun gK cv aH cR=>?_
 have bh:=Qb aH cv
 have bw:gK≠p:=fun z=>by rw[z,bK]at aH;cases aH
 have dk:H0 gK=none:=b9.none aH bw
 have di:gO≠gK:=fun z=>by rw[<-z,D]at aH;cases aH
 have da:gP≠gK:=fun z=>by rw[<-z,O]at aH;cases aH
 have dg:gL≠gK:=fun z=>by rw[<-z,aj]at aH;cases aH
 have cU:gT≠gK:=fun z=>by rw[<-z,a5]at aH;cases aH
 have bN:=bh _ _ bK
 have cS:=b9.same bh
 have X:=bh _ _ D
 have U:=ao
 have ag:=bh _ _ O
 have ac:=aG
 have aB:=bh _ _ aj
 have au:=bd
 have bb:=bh _ _ a5
 have aX:=bF
 generalize upd Hs9 gK cv=Ha5 at bh cR bN cS X ag aB bb⊢
 exists 4,p,C,G,av,rfl,bN,T.cl,T.na _ (by simp),Om,?_
 have bj:upd Ha5 p (.ins C G (putF "known" (.ref gK) av)) p=some (.ins C G (putF "known" (.ref gK) av)):=upd_same
 have bD:KpP p H0 (upd Ha5 p (.ins C G (putF "known" (.ref gK) av))):=cS.put
 have l:upd Ha5 p (.ins C G (putF "known" (.ref gK) av)) gO=some (.lst []):=by rw[Qj U];exact X
 have B:upd Ha5 p (.ins C G (putF "known" (.ref gK) av)) gP=some (.lst []):=by rw[Qj ac];exact ag
 have N:upd Ha5 p (.ins C G (putF "known" (.ref gK) av)) gL=some (.lst []):=by rw[Qj au];exact aB
 have ab:upd Ha5 p (.ins C G (putF "known" (.ref gK) av)) gT=some (.lst []):=by rw[Qj aX];exact bb
 have aJ:RD P w K (upd Ha5 p (.ins C G (putF "known" (.ref gK) av))) gK []:=RD.nil_keep cR (Qj bw)
 obtain⟨Y,bz⟩:∃fs,fs=putF "known" (.ref gK) av:=⟨_,rfl⟩
 have dt:Y.length<=10:=by rw[bz];have:=Xu "known" (.ref gK) av;lia
 have cT:∀x:Str,Y.lookup x=if x="known" then some (.ref gK)else av.lookup x:=fun x=>by rw[bz,Xt]
 rw[<-bz]at bj bD l B N ab aJ⊢
 generalize upd Ha5 p (.ins C G Y)=Hs10 at bj bD l B N ab aJ⊢
 have af:=U
 have an:=ac
 have aC:=au
 have a0:=aX
 have bp:=bw
 refine fun gN cL aw cD=>?_
 have a8:=Qb aw cL
 have bo:gN≠p:=fun z=>by rw[z,bj]at aw;cases aw
 have bY:H0 gN=none:=bD.none aw bo
 have c3:gO≠gN:=fun z=>by rw[<-z,l]at aw;cases aw
 have cW:gP≠gN:=fun z=>by rw[<-z,B]at aw;cases aw
 have df:gL≠gN:=fun z=>by rw[<-z,N]at aw;cases aw
 have dc:gT≠gN:=fun z=>by rw[<-z,ab]at aw;cases aw
 have bs:gK≠gN:=fun z=>by obtain⟨_,_,_,_,y,_⟩:=aJ.ex;rw[<-z,y]at aw;cases aw
 have bR:=a8 _ _ bj
 have cI:=bD.same a8
 have L:=a8 _ _ l
 have I:=af
 have W:=a8 _ _ B
 have R:=an
 have ad:=a8 _ _ N
 have aa:=aC
 have ar:=a8 _ _ ab
 have am:=a0
 have aT:=aJ.same a8
 have aM:=bp
 generalize upd Hs10 gN cL=Ha6 at a8 cD bR cI L W ad ar aT⊢
 exists 4,p,C,G,Y,rfl,bR,T.cl,T.na _ (by simp),Om,?_
 have bk:upd Ha6 p (.ins C G (putF "numbers" (.ref gN) Y)) p=some (.ins C G (putF "numbers" (.ref gN) Y)):=upd_same
 have cp:KpP p H0 (upd Ha6 p (.ins C G (putF "numbers" (.ref gN) Y))):=cI.put
 have d:upd Ha6 p (.ins C G (putF "numbers" (.ref gN) Y)) gO=some (.lst []):=by rw[Qj I];exact L
 have k:upd Ha6 p (.ins C G (putF "numbers" (.ref gN) Y)) gP=some (.lst []):=by rw[Qj R];exact W
 have u:upd Ha6 p (.ins C G (putF "numbers" (.ref gN) Y)) gL=some (.lst []):=by rw[Qj aa];exact ad
 have J:upd Ha6 p (.ins C G (putF "numbers" (.ref gN) Y)) gT=some (.lst []):=by rw[Qj am];exact ar
 have Z:RD P w K (upd Ha6 p (.ins C G (putF "numbers" (.ref gN) Y))) gK []:=RD.nil_keep aT (Qj aM)
 have aK:RD P w K (upd Ha6 p (.ins C G (putF "numbers" (.ref gN) Y))) gN []:=RD.nil_keep cD (Qj bo)
 obtain⟨aW,bn⟩:∃fs,fs=putF "numbers" (.ref gN) Y:=⟨_,rfl⟩
 have du:aW.length<=11:=by rw[bn];have:=Xu "numbers" (.ref gN) Y;lia
 have cK:∀x:Str,aW.lookup x=if x="numbers" then some (.ref gN)else Y.lookup x:=fun x=>by rw[bn,Xt]
 rw[<-bn]at bk cp d k u J Z aK⊢
 generalize upd Ha6 p (.ins C G aW)=Hs11 at bk cp d k u J Z aK⊢
 have aE:=I
 have aN:=R
 have a6:=aa
 have bi:=am
 have bA:=aM
 have bc:=bo
 have sH:Same H0 Hs11:=fun b o e=>cp b o e (Qi e p0)
 have cy:∀x,aW.lookup x=crL ⟨pr,ot,gO,gP,gL,gT,gK,gN⟩ az ak ((m:Nat):Int) x:=fun x=>by
  rw[cK,cT,cV,c6,dl,de,c7,dh,c1,dn,c4];rfl
 obtain⟨dz,_,_,_,cx,_⟩:=Z.ex
 obtain⟨dC,_,_,_,cZ,_⟩:=aK.ex
 have lv:=Paired.length cC
 have m2:=tw.m2
 let cE:Nat->St->Hp->Prop:=fun i σ H3=>∃(v5 v6:Option V) (a3:List (Rw2×V)),σ=[some (.ref p),some (.ref pr),some (Xm az),some (.ref ot),some (Xm ak),v5,v6]/\RD P w K H3 gN a3/\NuI cQ a3 i/\a3.length<=i/\∀b o,Hs11 b=some o->b≠gN->H3 b=some o
 exists 4,ot,8,sH.tup cA,at0,lO,rfl,⟨_,sH.seq cM⟩,Qjm (K:=K) (m:=true) (a:=lO) (xs:=vO) cE ⟨none,none,[],rfl,aK,fun r=>.inl ⟨rfl,fun z=>by rw[List.take_zero]at z;cases z⟩,jJ _,fun b o e _=>e⟩ (fun i σ H3 _ h=>?_) ?_ ?_
 .obtain⟨_,_,_,rfl,_,_,_,k3⟩:=h
  have s3:Same H0 H3:=fun b o e=>k3 b o (sH _ _ e) (Qi e bY)
  exact s3.seq cM
 .rintro i x σ H3 T0 e1 ⟨v5,v6,a3,rfl,cq,f3,l3,k3⟩ hT
  have s3:Same H0 H3:=fun b o e=>k3 b o (sH _ _ e) (Qi e bY)
  have hi:=(jW.mp e1).1
  obtain⟨t,r,rfl,er,cY⟩:=cC.get e1
  have a4:=Qb hT (.tup [.int (i:Nat),.ref t])
  have b4:SqT K (upd H3 T0 (.tup [.int (i:Nat),.ref t])) T0 [.int (i:Nat),.ref t]:=Qn upd_same
  generalize upd H3 T0 (.tup [.int (i:Nat),.ref t])=H4 at a4 b4⊢
  have s4:=s3.trans a4
  have cm:=cq.same a4
  have dj:=cY.same s4
  have bt:=a4 _ _ (k3 _ _ bk (fun z=>bc z.symm))
  exists T0,4,b4,rfl,_,4,7,?_
  exists 4,p,C,G,aW,4,bt,T.cl,T.na _ (by simp),(cy _).trans (cl_nu ..),gN,a3,rfl,cm,4,4,t,a3,r,rfl,cm,dj,Om,fun v ev=>?_,fun en dK dr up=>?_
  .refine⟨_,_,a3,rfl,cm,fun q=>?_,Om,fun b o e n=>a4 _ _ (k3 b o e n)⟩
   rcases f3 q with⟨y1,y2⟩ | y
   .refine .inl ⟨y1,fun z=>?_⟩
    rw[List.take_add_one,er]at z
    rcases xK.mp z with z | z
    .exact y2 z
    .have:q=r:=kW.mp z
     rw[this,ev]at y1;cases y1
   .exact .inr y
  .refine⟨_,_,_,rfl,dr,fun q=>?_,by rw[jV];exact kZf l3,fun b o e n=>by rw[Qj n];exact a4 _ _ (k3 b o e n)⟩
   rw[valV_snoc en]
   by_cases c:q=r
   .rw[Y22 c];exact .inr ⟨i,rfl,by rw[c];exact er⟩
   .rw[Y20 c]
    rcases f3 q with⟨y1,y2⟩ | y
    .refine .inl ⟨y1,fun z=>?_⟩
     rw[List.take_add_one,er]at z
     rcases xK.mp z with z | z
     .exact y2 z
     .exact c (kW.mp z)
    .exact .inr y
 .rintro σ H3 ⟨v5,v6,a3,rfl,cq,f3,l3,k3⟩
  have s3:Same H0 H3:=fun b o e=>k3 b o (sH _ _ e) (Qi e bY)
  have nl:∀{g:Addr} {xs:List V},Hs11 g=some (.lst xs)->g≠gN:=fun e=>Kt e cZ (by intro z;cases z)
  have x1:=k3 _ _ d (nl d)
  have x2:=k3 _ _ k (nl k)
  have x3:=k3 _ _ u (nl u)
  have x4:=k3 _ _ J (nl J)
  have x5:=RD.nil_keep Z (H':=H3) (by rw[k3 _ _ cx bs,cx])
  obtain⟨_,_,_,_,y5,_⟩:=id x5.ex
  refine q H3 ⟨pr,ot,gO,gP,gL,gT,gK,gN⟩ ⟨⟨G,aW,k3 _ _ bk (fun z=>bc z.symm),cy⟩,cG,ct,⟨[],x1,.nil⟩,x2,⟨[],x3,.nil⟩,⟨[],x4,.nil⟩,⟨[],x5,rfl,fun i r e=>nomatch e⟩,⟨a3,cq,fun r=>?_⟩,⟨ca,ch,cb,cf,ci,bX,bs⟩,⟨dd,dm,dq,c5,dk⟩,⟨?_,?_,?_,?_,?_⟩,s3,fun _ e=>e,.nil,tw,(fun r z=>nomatch z),jJ _,(fun j z=>nomatch z)⟩
  .rcases f3 r with⟨y1,y2⟩ | y
   .exact .inl ⟨y1,by rw[zX Om]at y2;exact y2⟩
   .exact .inr y
  .show H3 gO≠none;rw[x1];exact fun z=>nomatch z
  .show H3 gP≠none;rw[x2];exact fun z=>nomatch z
  .show H3 gL≠none;rw[x3];exact fun z=>nomatch z
  .show H3 gT≠none;rw[x4];exact fun z=>nomatch z
  .show H3 gK≠none;rw[y5];exact fun z=>nomatch z
abbrev Qsq:Stmt:=top 39
theorem decT{p:Prop}{i:Decidable p}(h:@decide p i=true):p:=yQ h
theorem decF{p:Prop}{i:Decidable p}(h:@decide p i=false):¬p:=of_decide_eq_false h
theorem ok_new{S:SK}{told:List Rw}{r:Rw}(z:Rw)(h:CrM m S pl told)(f:DLok cs2.length ln)(d:∀k∈ln.names,0<=k/\k<(S.length:Int))(i:told.length<=1000):Qiy rs2 cs2 best2 told pl ln r↔(∀k∈ln.names,stay S k=true)/\Qsj rs2 cs2 best2 (Kv m z S) ln r:=by
 have a:(rowT rs2 cs2 best2 (told.map some) (renD pl ln)=some r)↔(∀k∈ln.names,stay S k=true)/\rowL rs2 cs2 best2 (Kv m z S) ln=some r:=by
  by_cases c:Qda pl ln
  .rw[(h.row z f d c i).1]
   exists fun e=>⟨(h.placed d).mp c,e⟩,fun e=>e.2
  .rw[Qpr (.inl f) c]
   exists fun e=>(nomatch e),fun e=>Y21 ((h.placed d).mpr e.1) c
 cases ln with
 |giv k=>exists fun e=>⟨fun k g=>(nomatch g),e⟩,fun e=>e.2
 |low k=>exact a
 |high k=>exact a
 |bet=>exact a
 |no=>exact a
 |sm ps=>exact a
 |shr o b=>exact a
 |sht o hs=>exact a
 |eit o p c=>exact a
 |lik t=>exact a
inductive Qtw(K:Fg)(vs:List V)(H:Hp)(Q:VK)(E:XK):Prop|mk(pr pp ot:Addr)(us:List V)(lns:List DL)(rs:List Rw)(cs:List Int)(best:Option Int)(rs2:List Rw)(cs2:List Int)(best2:Option Int)(m:Nat)(z:Rw)(_:vs=[.ref pr,Xm best,.ref pp,.ref ot,Xm best2])(_:ProbAt K H pr rs cs)(_:SqL K H pp us)(_:LinesAt K H us lns)(_:(∀ln∈lns,DLok cs.length ln))(_:ProbAt K H ot rs2 cs2)(_:Two rs cs rs2 cs2 m)(_:lns.length<=60)(_:∀(u L Pl:Addr) (us':List V) (lns':List DL) (told:List Rw) (pl:List (Option Nat)) (H1 H':Hp),Same H H'->(∀l,H1 l=none->H l=none)->H1 L≠none->SqT K H' u [.ref L,.ref Pl]->H' L=some (.lst us')->LinesN K H1 H' us' lns'->H' Pl=some (.lst (pl.map plV))->Right rs2 cs2 best2 lns' told->told.length<=lns.length->CrM m (Jd rs cs best rs2 cs2 best2 m z lns) pl told->Q (.ref u) H'):Qtw K vs H Q E
theorem scCarr:FnScope ["problem","best","paper","other","other_best","carrier","line"] ["problem","best","paper","other","other_best"] (Qf Qsq):=Sc
theorem okCarr{fI fB:Addr}{fdI fdB:FuncData}(F:Fn K mg "carried" Qsq)(M:Mg mg)(T:CrTxt K mg C)(mI:Mk K C fI)(GI:FnOk P w K mg base CX0 1 fI fdI ["self","problem","best","other","other_best"] (spCrI P w K C))(bI:Binds K fdI ["self","problem","best","other","other_best"] [])(GB:FnOk P w K mg base CX0 8 fB fdB ["self","line"] (spCrB P w K C))(bB:Binds K fdB ["self","line"] [])(mB:Meth K C "bring" fB):qC 9 "carried" ["problem","best","paper","other","other_best"] (Qtw K):=by
 refine Xf F scCarr (a:=fun f ao A af s H vs Q E hr h=>?_)
 obtain⟨pr,pp,ot,us,d,rs,cs,best,rs2,cs2,best2,m,z,rfl,ae,Z,X,al,ac,tw,ap,q⟩:=h
 refine⟨_,(Qd (Z4 5 scCarr.nd (Quf mI GI (hr.mono Dc) rfl T.mgC bI .nil Qmt (Qa (pv 0) (Qa (pv 1) (Qa (pv 3) (Qa (pv 4) Qc))))))
  (Qd (Yo PassesOwn.never rfl (Xq (pv 2)) (Z3 6 scCarr.nd) (Qh (Yn (Qmn (pv 5) T.cl mB GB (hr.mono Dc) bB .nil Qmt (Qa (pv 6) Qc)))))
  (Qh (Qp (Qy (Qa (Zj (pv 5) rfl) (Qa (Zj (pv 5) rfl) Qc))))))),?_⟩
 exists"z"
 have lu:=Paired.length X
 exists 4,4,4,4,fun p dx hp am aq=>?_
 have sm:Same H (upd (upd H dx (.own p)) p (.ins C dx [])):=fun b o e=>by rw[Qj (Qi e hp),Qj (Qi e am)];exact e
 exists H,p,dx,pr,ot,rs,cs,best,rs2,cs2,best2,m,rfl,upd_same,sm,hp,ae,ac,tw,fun H1 a S1=>⟨rfl,?_⟩
 let Y:Nat->St->Hp->Prop:=fun i σ H3=>∃(v6:Option V) (g:List (Option Rw)) (W:List (Option Nat)) (v:List DL) (t:List Rw),σ=[some (.ref pr),some (Xm best),some (.ref pp),some (.ref ot),some (Xm best2),some (.ref p),v6]/\CrAt P w K C H H1 H3 p a rs cs best rs2 cs2 best2 m g W v t/\CrM m (Jd rs cs best rs2 cs2 best2 m z (d.take i)) W t/\g=(Jd rs cs best rs2 cs2 best2 m z (d.take i)).map (·.1)
 exists 4,pp,rfl,⟨_,S1.ba.seq Z⟩,Zd (K:=K) (a:=pp) (xs:=us) Y ⟨none,[],[],[],[],rfl,S1,⟨rfl,(fun k o e=>nomatch e),(fun k o e=>nomatch e)⟩,rfl⟩ (fun i σ H3 _ h=>?_) ?_ ?_
 .obtain⟨_,_,_,_,_,rfl,B,_⟩:=h
  exact B.ba.seq Z
 .rintro i x σ H3 e1 ⟨v6,g,W,v,t,rfl,B,R,I⟩
  obtain⟨U,el,u,rfl,hu⟩:=L2.Xw X e1
  have hi:=(jW.mp el).1
  have J:=al U (kK el)
  have lk:=Vl (rs:=rs) (cs:=cs) (best:=best) (rs2:=rs2) (cs2:=cs2) (best2:=best2) (m:=m) (z:=z) (d.take i)
  rw[yY,jXd Om]at lk
  have lo:g.length=i:=by rw[I,jQ,lk]
  have lp:=R.len
  obtain⟨D,G,o3,o4⟩:=B.ob
  have tl:=B.tl
  have ar:=tw.n1
  exists 4,p,D,G,rfl,o3,(o4 _).trans (cl_no _ _ _ _ Dk),4,H,H1,p,a,rs,cs,best,rs2,cs2,best2,m,g,W,v,t,u,U,rfl,B,Om,Om,hu,J,fun H4 o q2 an ad N S4 ai hn hs=>?_
  have ab:Jd rs cs best rs2 cs2 best2 m z (d.take (i+1))=Jd rs cs best rs2 cs2 best2 m z (d.take i)++[Kw rs cs best rs2 cs2 best2 m z (Jd rs cs best rs2 cs2 best2 m z (d.take i)) U]:=by rw[Zh el,Qdu]
  exists _,_,_,_,4,S4,?_,?_
  .rw[ab]
   have O:=R.more ai
   generalize hS:Jd rs cs best rs2 cs2 best2 m z (d.take i)=S at R O lk lp I
   unfold Kw
   rw[<-I,<-N]
   cases o with
   |none=>exact O.snoc (fun e=>nomatch e) (fun _=>hn rfl)
   |some r=>
    have ak:∀k∈U.names,0<=k/\k<(S.length:Int):=fun k hk=>by
     have e:=N.symm
     rw[Qfm ([],0) J]at e
     obtain⟨r0,e0,_⟩:=wQ.mp e
     obtain⟨h0,h1⟩:=Vt e0 k hk
     rw[jQ]at h1
     exists h0,Om
    have aa:=ok_new (rs2:=rs2) (cs2:=cs2) (best2:=best2) (r:=Zc m r) z R (DLok.up (n:=cs.length) J Om) ak Om
    obtain⟨ah,aj⟩:=hs r rfl
    refine O.snoc (fun e=>?_) fun e=>?_
    .obtain⟨j,ej,et⟩:=ah (aa.mpr (decT e))
     exists r,j,rfl,ej,et
    .exact aj fun y=>Y21 (aa.mp y) (decF e)
  .rw[ab,kY,<-I]
   have:(Kw rs cs best rs2 cs2 best2 m z (Jd rs cs best rs2 cs2 best2 m z (d.take i)) U).1=o:=by
    unfold Kw
    rw[<-I,<-N]
    cases o<;>rfl
   show _=g++[(Kw rs cs best rs2 cs2 best2 m z (Jd rs cs best rs2 cs2 best2 m z (d.take i)) U).1]
   rw[this]
 .rintro σ H3 ⟨v6,g,W,v,t,rfl,B,R,I⟩
  rw[show us.length=d.length by lia,wJ]at R I
  obtain⟨D,G,o3,o4⟩:=B.ob
  obtain⟨ag,l1,l2⟩:=B.ln
  exists 4,p,C,D,G,4,o3,T.cl,T.na _ (by simp),(o4 _).trans (Qvs ..),4,p,C,D,G,4,o3,T.cl,T.na _ (by simp),(o4 _).trans (Qsp ..),Z1 2,fun u hu=>?_
  have a4:=Qb hu (.tup [.ref a.L,.ref a.Pl])
  refine q u a.L a.Pl ag v t W H1 _ (B.ba.trans a4) (fun l e=>?_) B.f1.2.2.1 (Qn upd_same) (a4 _ _ l1) (LinesN.imp l2 fun _ _ y=>y.same a4) (a4 _ _ B.pc) B.rt ?_ R
  .cases c:H l with
   |none=>rfl
   |some o=>rw[S1.ba _ _ c]at e;cases e
  .have:=B.tl
   rw[I,jQ,Vl]at this
   exact this
abbrev sKp:Stmt:=top 65
theorem AnsO.of{Q:VK}{o:Option Rw}(h:∀(v:V) (H':Hp),Same H H'->(match o with | none=>v=.non | some r=>∃t,v=.ref t/\RowAt K H' t r)->Q v H'):AnsO K H Q o :=
 ⟨fun e H' s=>h _ H' s (by rw[e]),fun r e t H' s z=>h _ H' s (by rw[e];exists t,rfl,z)⟩
def AgrO(S:SK)(hd:List Rw):Prop:=hd.length=S.length/\∀(k:Nat) r b,S[k]?=some (some r,b)->hd[k]?=some r
theorem DLok.nb(h:DLok n ln):∀k∈ln.names,0<=k:=fun k a=>by
 cases ln with
 |sm ps=>obtain⟨p,d,rfl⟩:=zJ.mp a;exact(h.2 p d).1.1
 |shr o b=>rw[kW.mp a];exact h.1.1
 |sht o hs=>rw[kW.mp a];exact h.1.1
 |eit o p c=>
  rcases yK.mp a with e | e
  .rw[e];exact h.1.1
  .rw[kW.mp e];exact h.2.1.1
 |giv k=>exact nomatch a
 |low k=>exact nomatch a
 |high k=>exact nomatch a
 |bet=>exact nomatch a
 |no=>exact nomatch a
 |lik t=>exact nomatch a
theorem Qtx(ln:DL):ln.ren id=ln:=by
 cases ln with
 |sm ps=>show DL.sm (ps.map fun p=>(id p.1,p.2))=_;rw[show(ps.map fun p:Int×Int=>(id p.1,p.2))=ps from List.map_id ps]
 |_=>rfl
section
variable{S:SK}
open Classical in
theorem Qvu(h:AgrO S hd)(g:DLok cs.length ln):rowT rs cs best (S.map (·.1)) (dlD ln)=(rowL rs cs best hd ln).bind fun r=>if Told (S.map (·.1)) ln then some r else none:=by
 rw[Qfm ([],0) g]
 by_cases t:Told (S.map (·.1)) ln
 .rw[Jb _ _ t,Jb _ _ t]
  have d:∀k∈ln.names,InH hd k/\InH ((S.map (·.1)).map (·.getD ([],0))) (id k)/\rowK ((S.map (·.1)).map (·.getD ([],0))) (id k).toNat=rowK hd k.toNat:=fun k e=>by
   have a:=t k e
   have f:=g.nb k e
   rw[jY,jZ]at a
   cases c:S[k.toNat]? with
   |none=>rw[c]at a;cases a
   |some q=>
    obtain⟨i,b⟩:=q
    rw[c]at a
    cases i with
    |none=>cases a
    |some r=>
     have l:=(jW.mp c).1
     have j:=h.2 _ _ _ c
     exists ⟨f,by have:=h.1;lia⟩,⟨f,by show k<_;rw[jQ,jQ];lia⟩,?_
     unfold rowK
     show(List.getD _ k.toNat _)=_
     rw[jY,jZ,jZ,c,jY,j]
     rfl
  have:=Qiq (rs:=rs) (cs:=cs) (best:=best) d
  rw[Qtx]at this
  exact this
 .rw[Jc _ _ t,Jc _ _ t]
theorem Qsr{z:Rw}(h:AgrO S hd)(n:DLok cs.length ln)(l:∀k∈ln.names,stay S k=true/\∃r,(S.getD k.toNat (none,false)).1=some r):rowL rs cs best (hd.map (Zc m)) ln=rowL rs cs best (Kv m z S) ln:=by
 have e:∀k∈ln.names,InH (Kv m z S) k/\InH (hd.map (Zc m)) (id k)/\rowK (hd.map (Zc m)) (id k).toNat=rowK (Kv m z S) k.toNat:=fun k f=>by
  obtain⟨o,r,a⟩:=l k f
  have g:=n.nb k f
  rw[jY]at a
  cases c:S[k.toNat]? with
  |none=>rw[c]at a;cases a
  |some q=>
   obtain⟨i,b⟩:=q
   rw[c]at a
   have d:i=some r:=a
   subst d
   have p:=(jW.mp c).1
   have j:=h.2 _ _ _ c
   exists ⟨g,by unfold Kv;rw[jQ];lia⟩,⟨g,by show k<_;rw[jQ];have:=h.1;lia⟩,?_
   unfold rowK Kv
   show(List.getD _ k.toNat _)=_
   rw[jY,jZ,j,jY,jZ,c]
   rfl
 have:=Qiq (rs:=rs) (cs:=cs) (best:=best) e
 rw[Qtx]at this
 exact this
end
def Qlx(K:Fg)(H:Hp)(m:Nat)(z:Rw):List V->SK->Prop:=Paired fun v p=>if p.2=true then ∃t,v=.ref t/\RowAt K H t (Zc m (p.1.getD z))else v=.non
def zeroR(n:Nat):Rw:=(qg n 0,0)
inductive spKp(K:Fg)(vs:List V)(H:Hp)(Q:VK)(E:XK):Prop|mk(pr pp ot:Addr)(us:List V)(lns:List DL)(rs:List Rw)(cs:List Int)(best:Option Int)(rs2:List Rw)(cs2:List Int)(best2:Option Int)(m:Nat)(z:Rw)(_:vs=[.ref pr,Xm best,.ref pp,.ref ot,Xm best2])(_:ProbAt K H pr rs cs)(_:SqL K H pp us)(_:LinesAt K H us lns)(_:(∀ln∈lns,DLok cs.length ln))(_:ProbAt K H ot rs2 cs2)(_:Two rs cs rs2 cs2 m)(_:lns.length<=60)(_:z=zeroR cs.length)(_:∀(g:Addr) (ws:List V) (H':Hp),Same H H'->H g=none->H' g=some (.lst ws)->Qlx K H' m z ws (Jd rs cs best rs2 cs2 best2 m z lns)->Q (.ref g) H'):spKp K vs H Q E
theorem ix_bl{S:SK}{g:Option Rw×Bool->Bool}{k:Int}(b:0<=k)(c:k<(S.length:Int)):atI (S.map fun p=>V.bl (g p)) k=some (.bl (g (S.getD k.toNat (none,false)))):=by
 have a:k.toNat<S.length:=Om
 have:=Zx (xs:=S.map fun p=>V.bl (g p)) (j:=k.toNat) (v:=.bl (g (S.getD k.toNat (none,false)))) (by rw[jZ,gE a,jY,gE a];rfl)
 rw[show((k.toNat:Nat):Int)=k by lia]at this
 exact this
theorem decI{p:Prop}{i:Decidable p}(h:p):@decide p i=true:=yJ h
theorem Qss{S:SK}:Told (S.map (·.1)) ln↔(ln.names.all fun k=>(S.getD k.toNat (none,false)).1.isSome)=true:=by
 rw[jXe]
 have e:∀k:Nat,(S.map (·.1)).getD k none=(S.getD k (none,false)).1:=fun k=>by
  rw[jY,jY,jZ]
  cases S[k]?<;>rfl
 exists fun h k a=>by rw[<-e];exact h k a,fun h k a=>by rw[e];exact h k a
theorem Qpx(h:DLok n ln):ln.names.length<=10:=by
 cases ln with
 |sm ps=>show(ps.map _).length<=10;rw[jQ];exact h.1
 |shr o b=>show 1<=10;decide
 |sht o hs=>show 1<=10;decide
 |eit o p c=>show 2<=10;decide
 |giv k=>show 0<=10;decide
 |low k=>show 0<=10;decide
 |high k=>show 0<=10;decide
 |bet=>show 0<=10;decide
 |no=>show 0<=10;decide
 |lik t=>show 0<=10;decide
theorem Qpy(b:List Int)(g:Int->Bool):(b.map fun k=>V.bl (g k)).all Qai=true:=by
 rw[jXe]
 intro x a
 obtain⟨k,_,rfl⟩:=zJ.mp a
 rfl
theorem Qkl(a:List Int)(g:Int->Bool):(!inV (.bl false) (a.map fun k=>V.bl (g k)))=a.all g:=by
 induction a with
 |nil=>rfl
 |cons k a ih=>
  rw[xX,List.all_cons]
  show(!(eqV (.bl (g k)) (.bl false)||inV (.bl false) (a.map fun k=>V.bl (g k))))=_
  rw[Bool.not_or,ih]
  cases g k<;>rfl
theorem scKp:FnScope ["_law_problem_here","_law_best","_law_paper_here","_law_other_here","_law_other_best","_law_more","_law_none","_law_olds","_law_wide","_law_right","_law_staying","_law_line","_law_row_here","_law_good","_law_new","_law_same"] ["_law_problem_here","_law_best","_law_paper_here","_law_other_here","_law_other_best"] (Qf sKp):=Sc
theorem okKp(F:Fn K mg "_law_kept" sKp)(M:Mg mg)(ah:qC 3 "_law_row" ["_law_problem_here","_law_best","_law_heard","_law_line"] (Qfk K))(aa:qC 1 "_law_named" ["_law_line"] (spNm K)):qC 4 "_law_kept" ["_law_problem_here","_law_best","_law_paper_here","_law_other_here","_law_other_best"] (spKp K):=by
 refine Xf F scKp (a:=fun f b6 A bN s H vs Q E hr h=>?_)
 obtain⟨pr,pp,ot,us,C,rs,cs,best,rs2,cs2,best2,m,z,rfl,bp,aR,aW,bZ,bc,tw,b9,ez,q⟩:=h
 have aU:=Z6 6 hr.un
 refine⟨_,(Qd (Z4 5 scKp.nd (Qu Qem (Qy (Qa Qe Qc)) (Qu Ys (qL (Qo Qm (pv 3) Qe)) (qL (Qo Qm (pv 0) Qe)))))
  (Qd (Z4 6 scKp.nd (Qy (Qa (Qu Qem (Qy (Qa Qe Qc)) (qL (Qo Qm (pv 0) Qe))) (Qa Qe Qc))))
  (Qd (Z4 7 scKp.nd (Xo Qc))
  (Qd (Z4 8 scKp.nd (Xo Qc))
  (Qd (Z4 9 scKp.nd (Xo Qc))
  (Qd (Z4 10 scKp.nd (Xo Qc))
  (Qd (Yo PassesOwn.never rfl (Xq (pv 2)) (Z3 11 scKp.nd) (Qd (Z4 12 scKp.nd (Xc ah (hr.mono Dc) (Qa (pv 0) (Qa (pv 1) (Qa (pv 7) (Qa (pv 11) Qc))))))
  (Qd (Z4 13 scKp.nd (Jo (Xz Qdx (pv 12) Xh (Qs _)) (Vx (Xz Kz Qbp (Zn ["_law_place","_law_right"] [none,some 9] rfl (Xq (Xc aa (hr.mono Dc) (Qa (pv 11) Qc))) (fun _ _ _=>(Z3 0 (show(["_law_place","_law_right"]:List Str).Nodup by decide +kernel))) (fun _ _ _=>Yc) (fun _ _ _=>(Qo (Kh (K:=K) rfl) (pv 1) (pv 0)))) rfl))))
  (Qd (Xg (Qr Qax (pv 12) Xh (Qs _)) (Qh (Z4 12 scKp.nd (pv 6))) Qq)
  (Qd (Z4 14 scKp.nd (Qy (Qa (Qu Qiu (Qo Qm (pv 12) Qe) (pv 5)) (Qa (Qo Qm (pv 12) Qe) Qc))))
  (Qd (Z4 15 scKp.nd (Jo (pv 13) (Vx (Xz Kz Qbp (Zn ["_law_place","_law_staying"] [none,some 10] rfl (Xq (Xc aa (hr.mono Dc) (Qa (pv 11) Qc))) (fun _ _ _=>(Z3 0 (show(["_law_place","_law_staying"]:List Str).Nodup by decide +kernel))) (fun _ _ _=>Yc) (fun _ _ _=>(Qo (Kh (K:=K) rfl) (pv 1) (pv 0)))) rfl))))
  (Qd (Xg (PW.pt (Ko (Xl (pv 15)) (Ju (Qr Yh (Qo Qm (pv 11) Qe) Xj (Qs _))))) (Qh (Z4 15 scKp.nd (Xz (op_inR (K:=K) rfl aU) (pv 14) (Qo Qm (pv 3) Qe) rfl))) (Qh (Z4 15 scKp.nd (Jo (pv 15) (Vx (Xz (op_eqN (n:=6) aU) (Xc ah (hr.mono Dc) (Qa (pv 3) (Qa (pv 4) (Qa (pv 8) (Qa (pv 11) Qc))))) (pv 14) (Qs _)))))))
  (Qd (Yn (Va Y1 Y2 Y3 Xx (pv 7) (Qa (pv 12) Qc)))
  (Qd (Yn (Va Y1 Y2 Y3 Xx (pv 8) (Qa (pv 14) Qc)))
  (Qd (Yn (Va Y1 Y2 Y3 Xx (pv 9) (Qa (pv 13) Qc)))
  (Qh (Yn (Va Y1 Y2 Y3 Xx (pv 10) (Qa (pv 15) Qc))))))))))))))
  (Qh (Qp (Zn ["_law_k","_law_wide","_law_staying"] [none,some 8,some 10] rfl (Yt rfl M.range_ (Qa (qL (pv 2)) Qc)) (fun _ _ _=>(Z3 0 (show(["_law_k","_law_wide","_law_staying"]:List Str).Nodup by decide +kernel))) (fun _ _ _=>Yc) (fun _ _ _=>(Qo (Kh (K:=K) rfl) (Xo (Qa Xh (Qa (Qo (Kh (K:=K) rfl) (pv 1) (pv 0)) Qc))) (Qz Jp rfl M.int_ Vc (Qa (Qo (Kh (K:=K) rfl) (pv 2) (pv 0)) Qc)))))))))))))),?_⟩
 exists"z"
 have lu:=Paired.length aW
 obtain⟨lP,cP,vP,bB,b8,cd,bf⟩:=id bp
 obtain⟨lO,cO,vO,bj,bP,bH,bF⟩:=id bc
 have n1:=tw.n1
 have n2:=tw.n2
 have m1:=tw.m1
 have m2:=tw.m2
 exists Z1 1,fun p1 bU=>?_
 have a1:=Qb bU (.tup [.int 0])
 have b1:SqT K (upd H p1 (.tup [.int 0])) p1 [.int 0]:=Qn upd_same
 generalize upd H p1 (.tup [.int 0])=H1 at a1 b1⊢
 exists 4,ot,8,a1.tup bj,at1,cO,4,.inr (a1.tup bF),4,pr,8,a1.tup bB,at1,cP,4,.inr (a1.tup bf),7,?_
 have em:(((cs2.map V.int).length:Nat):Int)-(((cs.map V.int).length:Nat):Int)=((m:Nat):Int):=by rw[jQ,jQ];lia
 show Quv K (.ref p1) (.int ((((cs2.map V.int).length:Nat):Int)-(((cs.map V.int).length:Nat):Int))) H1 _
 rw[em]
 exists p1,_,[.int 0],rfl,rfl,b1,Om,Om,by show 1*((m:Nat):Int).toNat<=sizeLine;lia,fun pM H2 s2 hM=>?_
 rw[Qhh m]at hM
 exists Z1 1,fun p3 aF=>?_
 have a3:=Qb aF (.tup [.int 0])
 have b3:SqT K (upd H2 p3 (.tup [.int 0])) p3 [.int 0]:=Qn upd_same
 generalize upd H2 p3 (.tup [.int 0])=H3 at a3 b3⊢
 have s3:=(a1.trans s2).trans a3
 exists 4,pr,8,s3.tup bB,at1,cP,4,.inr (s3.tup bf),p3,_,[.int 0],rfl,rfl,b3,Om,by rw[jQ];lia,by show 1*((((cs.map V.int).length:Nat):Int)).toNat<=sizeLine;rw[jQ];lia,fun p4 H4 s4 aQ=>?_
 rw[Qhh,jQ]at aQ
 exists Z1 2,fun tN b0=>?_
 have a5:=Qb b0 (.tup [.ref p4,.int 0])
 have hN:RowAt K (upd H4 tN (.tup [.ref p4,.int 0])) tN z:=by rw[ez];exists p4,Qn upd_same,a5.tup aQ
 have bb:=(a3.trans (s4.trans a5)).tup hM
 have s5:=s3.trans (s4.trans a5)
 generalize upd H4 tN (.tup [.ref p4,.int 0])=H5 at a5 hN bb s5⊢
 clear hM aQ b3 b1
 have zl:z.1.length=cs.length:=by rw[ez];exact zZ ..
 exists Z1 0,fun I ba=>?_
 have a6:=Qb ba (.lst [])
 have x6:upd H5 I (.lst []) I=some (.lst []):=upd_same
 generalize upd H5 I (.lst [])=H6 at a6 x6⊢
 exists Z1 0,fun l aJ=>?_
 have a7:=Qb aJ (.lst [])
 have x7:upd H6 l (.lst []) l=some (.lst []):=upd_same
 have bk:I≠l:=Qi x6 aJ
 have aO:=a7 _ _ x6
 have zW:H5 l=none:=Qau a6 aJ
 generalize upd H6 l (.lst [])=H7 at a7 x7 aO⊢
 exists Z1 0,fun G ax=>?_
 have a8:=Qb ax (.lst [])
 have x8:upd H7 G (.lst []) G=some (.lst []):=upd_same
 have bA:I≠G:=Qi aO ax
 have a4:l≠G:=Qi x7 ax
 have aI:=a8 _ _ aO
 have aH:=a8 _ _ x7
 have zR:H5 G=none:=Qau (a6.trans a7) ax
 generalize upd H7 G (.lst [])=H8 at a8 x8 aI aH⊢
 exists Z1 0,fun W ap=>?_
 have a9:=Qb ap (.lst [])
 have x9:upd H8 W (.lst []) W=some (.lst []):=upd_same
 have bq:I≠W:=Qi aI ap
 have bx:l≠W:=Qi aH ap
 have bn:G≠W:=Qi x8 ap
 have bd:=a9 _ _ aI
 have aZ:=a9 _ _ aH
 have aT:=a9 _ _ x8
 have zS:H5 W=none:=Qau ((a6.trans a7).trans a8) ap
 have s9:=((a6.trans a7).trans a8).trans a9
 generalize upd H8 W (.lst [])=H9 at a9 x9 bd aZ aT s9⊢
 let bC:Nat->St->Hp->Prop:=fun i σ J=>∃(aE aM aP aw ao:Option V) (R L:List V) (U:List Rw),σ=[some (.ref pr),some (Xm best),some (.ref pp),some (.ref ot),some (Xm best2),some (.ref pM),some (.ref tN),some (.ref I),some (.ref l),some (.ref G),some (.ref W),aE,aM,aP,aw,ao]/\J I=some (.lst R)/\RowsAre K J R U/\J l=some (.lst L)/\RowsAre K J L (U.map (Zc m))/\J G=some (.lst ((Jd rs cs best rs2 cs2 best2 m z (C.take i)).map fun p=>V.bl p.1.isSome))/\J W=some (.lst ((Jd rs cs best rs2 cs2 best2 m z (C.take i)).map fun p=>V.bl p.2))/\AgrO (Jd rs cs best rs2 cs2 best2 m z (C.take i)) U/\(∀r∈U,r.1.length=cs.length)/\(∀(k:Nat) o,(Jd rs cs best rs2 cs2 best2 m z (C.take i))[k]?=some (o,true)->∃r,o=some r)/\Same H5 J
 exists 4,pp,rfl,⟨_,(s5.trans s9).seq aR⟩,Zd (K:=K) (a:=pp) (xs:=us) bC ⟨none,none,none,none,none,[],[],[],rfl,bd,.nil,aZ,.nil,aT,x9,⟨rfl,fun k r b e=>nomatch e⟩,(fun r e=>nomatch e),(fun k o e=>nomatch e),s9⟩ (fun i σ J _ h=>?_) ?_ ?_
 .obtain⟨_,_,_,_,_,_,_,_,rfl,_,_,_,_,_,_,_,_,_,k5⟩:=h
  exact(s5.trans k5).seq aR
 .rintro i x σ J e1 ⟨aE,aM,aP,aw,ao,R,L,U,rfl,j1,j2,j3,j4,j5,j6,Y,ar,ag,k5⟩
  obtain⟨ln,el,u,rfl,hu⟩:=L2.Xw aW e1
  have hi:=(jW.mp el).1
  have ae:=bZ ln (kK el)
  have aD:DLok cs2.length ln:=DLok.up (n:=cs.length) ae Om
  have aS:Jd rs cs best rs2 cs2 best2 m z (C.take (i+1))=Jd rs cs best rs2 cs2 best2 m z (C.take i)++[Kw rs cs best rs2 cs2 best2 m z (Jd rs cs best rs2 cs2 best2 m z (C.take i)) ln]:=by rw[Zh el,Qdu]
  have lk:=Vl (rs:=rs) (cs:=cs) (best:=best) (rs2:=rs2) (cs2:=cs2) (best2:=best2) (m:=m) (z:=z) (C.take i)
  rw[yY,jXd Om]at lk
  dsimp only[bC]
  rw[aS]
  generalize Jd rs cs best rs2 cs2 best2 m z (C.take i)=S at j5 j6 Y ag lk aS⊢
  clear aS
  have aN:=Y.1
  have cb:=Paired.length j2
  have b4:=Qpx ae
  have aG:=Paired.length j4
  rw[jQ]at aG
  have k0:=s5.trans k5
  have eT:=Qvu (rs:=rs) (cs:=cs) (best:=best) (ln:=ln) Y ae
  exists 4,4,4,4,pr,I,u,rs,U,cs,best,R,ln,rfl,bp.same k0,tw.l1,Qg j1,j2,Om,ar,hu.same k0,ae,Om,Om,AnsO.of fun v J1 t1 hv=>?_
  -- good
  refine Qfd (fun O J'=>∃gd:Bool,O=[some (.ref pr),some (Xm best),some (.ref pp),some (.ref ot),some (Xm best2),some (.ref pM),some (.ref tN),some (.ref I),some (.ref l),some (.ref G),some (.ref W),some (.ref u),some v,some (.bl gd),aw,ao]/\(gd=true↔∃r,rowT rs cs best (S.map (·.1)) (dlD ln)=some r)/\(match rowL rs cs best U ln with | none=>v=.non | some r=>∃t,v=.ref t/\RowAt K J' t r)/\Same J J') ?_ fun REST=>?_
  rotate_left
  .cases eR:rowL rs cs best U ln with
   |none=>
    rw[eR]at hv eT
    have am:v=.non:=hv
    subst am
    exists 4,rfl,4,iteF (REST _ _ ⟨false,rfl,⟨fun z=>(nomatch z),fun⟨r,z⟩=>by rw[eT]at z;cases z⟩,by rw[eR],t1⟩)
   |some r=>
    rw[eR]at hv eT
    obtain⟨t,rfl,aj⟩:=hv
    have al:∀k∈ln.names,0<=k/\k<(S.length:Int):=fun k hk=>by
     obtain⟨h0,h1⟩:=Vt eR k hk
     exists h0,Om
    have bL:=hu.same (k0.trans t1)
    exists 4,rfl,4,iteT ?_
    exists 4,u,ln,cs.length,rfl,bL,ae,Om,fun gN J2 t2 bD ac=>?_
    exists gN,rfl,⟨_,Qg ac⟩,fun D hD=>?_
    let bw:Nat->St->List V->Hp->Prop:=fun j τ d Jx=>∃v:Option V,τ=[v,some (.ref G)]/\Jx D=some (.lst d)/\d=(ln.names.take j).map (fun k=>V.bl ((S.getD k.toNat (none,false)).1.isSome))/\Same J2 Jx
    refine Yg (n:=ln.names.length) bw ?_ (fun j τ d Jx hj h=>?_) (fun j τ d Jx hj h=>?_) (fun τ d Jx h=>?_) ?_ ?_
    .exact⟨none,rfl,upd_same,rfl,Qb hD _⟩
    .obtain⟨v,rfl,N,rfl,B⟩:=h
     exists N,by rw[jQ,yY];lia
    .obtain⟨v,rfl,N,rfl,B⟩:=h
     exists _,_,B.seq (Qg ac),by rw[jZ,gE hj];rfl
    .obtain⟨v,rfl,N,rfl,B⟩:=h
     exists _,B.seq (Qg ac),by rw[jQ];exact jJ _
    .rintro j τ d Jx x Jy hj ⟨v,rfl,N,rfl,B⟩ ⟨rfl,e1⟩
     obtain⟨k,ek,rfl⟩:=Yf (e1 _ (B.seq (Qg ac)))
     have hk:=al k (kK ek)
     exists 4,4,G,8,B.seq (Qg ((t1.trans t2) _ _ j5)),ix_bl (g:=fun p=>p.1.isSome) hk.1 hk.2,N,4,upd_same,?_,fun b o e=>?_
     .rw[Zh ek,kY];rfl
     .rw[Qj (Qi e hD)];exact B _ _ e
    rintro τ d Jz ⟨v,rfl,N,rfl,B⟩
    rw[wJ]at N
    exists D,4,.inl (Qg N),rfl,Qpy _ _,?_
    show Qdw 13 (.bl (!inV (.bl false) (ln.names.map fun k=>V.bl (S.getD k.toNat (none,false)).1.isSome))) _ _ _
    rw[Qkl]
    refine REST _ _ ⟨_,rfl,?_,by rw[eR];exact⟨t,rfl,aj.same (t2.trans B)⟩,(t1.trans t2).trans B⟩
    rw[<-Qss]
    constructor
    .intro hT
     exists r,by rw[eT];exact Y22 hT
    .rintro⟨Z,X⟩
     refine Classical.byContradiction fun c=>?_
     rw[eT]at X
     have:(if Told (S.map (·.1)) ln then some r else none)=some Z:=X
     rw[Y20 c]at this
     cases this
  rintro O J2 ⟨gd,rfl,hg,au,t2⟩
  clear hv t1 J1
  refine Qom (fun O J'=>∃(t:Addr) (r:Rw),O=[some (.ref pr),some (Xm best),some (.ref pp),some (.ref ot),some (Xm best2),some (.ref pM),some (.ref tN),some (.ref I),some (.ref l),some (.ref G),some (.ref W),some (.ref u),some (.ref t),some (.bl gd),aw,ao]/\RowAt K J' t r/\r.1.length=cs.length/\(∀Z,rowT rs cs best (S.map (·.1)) (dlD ln)=some Z->r=Z)/\Same J J') ?_ fun REST=>?_
  rotate_left
  .cases eR:rowL rs cs best U ln with
   |none=>
    rw[eR]at au eT
    have am:v=.non:=au
    subst am
    exists 4,rfl,4,ite2 (fun _=>⟨_,rfl,REST _ _ ⟨tN,z,rfl,hN.same (k5.trans t2),zl,fun Z e=>(by rw[eT]at e;cases e),t2⟩⟩) (fun y=>Y21 (yJ rfl) y)
   |some r=>
    rw[eR]at au eT
    obtain⟨t,rfl,aj⟩:=au
    exists 4,rfl,4,ite2 (fun y=>Y21 (yQ y) (fun z=>nomatch z)) (fun _=>REST _ _ ⟨t,r,rfl,aj,Qkh tw.l1 ar ae eR,fun Z e=>?_,t2⟩)
    rw[eT]at e
    have X:(if Told (S.map (·.1)) ln then some r else none)=some Z:=e
    by_cases c:Told (S.map (·.1)) ln
    .rw[Y22 c]at X;exact Y5 X
    .rw[Y20 c]at X;cases X
  clear au t2 J2
  rintro O J3 ⟨t,r,rfl,aj,bI,bo,t3⟩
  obtain⟨p,r1,r2⟩:=id aj
  have bW:=k5.trans t3
  exists 4,t,8,r1,at0,4,p,pM,7,r2,bW.tup bb,by rw[jQ,jQ,zZ];lia,fun p3 J4 t4 aF=>?_
  exists 4,t,8,t4.tup r1,at1,Z1 2,fun T bM=>?_
  have aA:=Qb bM (.tup [.ref p3,.int r.2])
  have hW:RowAt K (upd J4 T (.tup [.ref p3,.int r.2])) T (Zc m r):=⟨p3,Qn upd_same,aA.tup (by rw[show(Zc m r).1.map V.int=r.1.map V.int++(qg m (0:Int)).map V.int from kY ..];exact aF)⟩
  have t5:=t3.trans (t4.trans aA)
  have aC:=aj.same (t4.trans aA)
  generalize upd J4 T (.tup [.ref p3,.int r.2])=J5 at hW t5 aC aA⊢
  have bJ:=k5.trans t5
  have bS:=hu.same (s5.trans bJ)
  have al:gd=true->∀k∈ln.names,0<=k/\k<(S.length:Int):=fun e k hk=>by
   obtain⟨Z,X⟩:=hg.mp e
   rw[eT]at X
   obtain⟨r0,e0,_⟩:=wQ.mp X
   obtain⟨h0,h1⟩:=Vt e0 k hk
   exists h0,Om
  refine Qfd (fun O J'=>∃sm:Bool,O=[some (.ref pr),some (Xm best),some (.ref pp),some (.ref ot),some (Xm best2),some (.ref pM),some (.ref tN),some (.ref I),some (.ref l),some (.ref G),some (.ref W),some (.ref u),some (.ref t),some (.bl gd),some (.ref T),some (.bl sm)]/\(sm=true↔gd=true/\∀k∈ln.names,stay S k=true)/\Same J5 J') ?_ fun REST=>?_
  rotate_left
  .cases gd with
   |false=>exists 4,4,iteF (REST _ _ ⟨false,rfl,⟨fun z=>(nomatch z),fun z=>(nomatch z.1)⟩,Same.refl _⟩)
   |true=>
    have al:=al rfl
    exists 4,4,iteT ?_
    exists 4,u,ln,cs.length,rfl,bS,ae,Om,fun gN J6 t6 bD ac=>?_
    exists gN,rfl,⟨_,Qg ac⟩,fun D hD=>?_
    let bz:Nat->St->List V->Hp->Prop:=fun j τ d Jx=>∃v:Option V,τ=[v,some (.ref W)]/\Jx D=some (.lst d)/\d=(ln.names.take j).map (fun k=>V.bl ((S.getD k.toNat (none,false)).2))/\Same J6 Jx
    refine Yg (n:=ln.names.length) bz ?_ (fun j τ d Jx hj h=>?_) (fun j τ d Jx hj h=>?_) (fun τ d Jx h=>?_) ?_ ?_
    .exact⟨none,rfl,upd_same,rfl,Qb hD _⟩
    .obtain⟨v,rfl,N,rfl,B⟩:=h
     exists N,by rw[jQ,yY];lia
    .obtain⟨v,rfl,N,rfl,B⟩:=h
     exists _,_,B.seq (Qg ac),by rw[jZ,gE hj];rfl
    .obtain⟨v,rfl,N,rfl,B⟩:=h
     exists _,B.seq (Qg ac),by rw[jQ];exact jJ _
    .rintro j τ d Jx x Jy hj ⟨v,rfl,N,rfl,B⟩ ⟨rfl,e1⟩
     obtain⟨k,ek,rfl⟩:=Yf (e1 _ (B.seq (Qg ac)))
     have hk:=al k (kK ek)
     exists 4,4,W,8,B.seq (Qg ((t5.trans t6) _ _ j6)),ix_bl (g:=fun p=>p.2) hk.1 hk.2,N,4,upd_same,?_,fun b o e=>?_
     .rw[Zh ek,kY];rfl
     .rw[Qj (Qi e hD)];exact B _ _ e
    rintro τ d Jz ⟨v,rfl,N,rfl,B⟩
    rw[wJ]at N
    exists D,4,.inl (Qg N),rfl,Qpy _ _,?_
    show Qdw 15 (.bl (!inV (.bl false) (ln.names.map fun k=>V.bl (S.getD k.toNat (none,false)).2))) _ _ _
    rw[Qkl]
    refine REST _ _ ⟨_,rfl,?_,t6.trans B⟩
    rw[jXe]
    exists fun z=>⟨rfl,z⟩,fun z=>z.2
  rintro O J6 ⟨sm,rfl,ai,t6⟩
  have ay:=t5.trans t6
  have aL:=k5.trans ay
  have aK:=hW.same t6
  have aB:=hu.same (s5.trans aL)
  have ad:(Kw rs cs best rs2 cs2 best2 m z S ln).2=true↔sm=true/\Qsj rs2 cs2 best2 (Kv m z S) ln (Zc m r):=by
   unfold Kw
   cases eo:rowT rs cs best (S.map (·.1)) (dlD ln)with
   |none=>
    exists fun z=>(nomatch z),fun z=>?_
    obtain⟨Z,X⟩:=hg.mp (ai.mp z.1).1
    rw[eo]at X;cases X
   |some Z=>
    obtain rfl:=bo Z eo
    constructor
    .intro y
     obtain⟨y1,y2⟩:=decT y
     exists ai.mpr ⟨hg.mpr ⟨_,eo⟩,y1⟩,y2
    .intro y
     exact decI ⟨(ai.mp y.1).2,y.2⟩
  refine Qom (fun O J'=>∃s2:Bool,O=[some (.ref pr),some (Xm best),some (.ref pp),some (.ref ot),some (Xm best2),some (.ref pM),some (.ref tN),some (.ref I),some (.ref l),some (.ref G),some (.ref W),some (.ref u),some (.ref t),some (.bl gd),some (.ref T),some (.bl s2)]/\s2=(Kw rs cs best rs2 cs2 best2 m z S ln).2/\Same J6 J') ?_ fun REST=>?_
  rotate_left
  .have az:∀{b c:Bool},(b=true↔c=true)->b=c:=fun{b c} h=>by cases b<;>cases c<;>simp at h<;>rfl
   cases sm with
   |false=>
    exists 4,4,iteF ⟨_,rfl,_,rfl,iteF (REST _ _ ⟨false,rfl,az ⟨fun z=>(nomatch z),fun z=>(nomatch (ad.mp z).1)⟩,Same.refl _⟩)⟩
   |true=>
    obtain⟨ca,bV⟩:=Qiv aB
    exists 4,4,iteT ⟨_,rfl,u,_,_,_,rfl,rfl,bV,atW,rfl,_,rfl,ite2 (fun y=>?_) (fun y=>?_)⟩
    .obtain⟨kg,rfl⟩:=Qts (eqStr y)
     have av:=s5.trans aL
     exists 4,4,ot,8,av.tup bj,at0,T,lO,_,vO,rs2,rfl,rfl,aK,av.seq bP,bH.imp (fun _ _ z=>z.same av),fun c hc=>REST _ _ ⟨c,rfl,az ?_,Same.refl _⟩
     rw[hc,ad]
     exists fun z=>⟨rfl,z⟩,fun z=>z.2
    .have av:=s5.trans aL
     have ng:Qsj rs2 cs2 best2 (Kv m z S) ln (Zc m r)=(rowL rs2 cs2 best2 (Kv m z S) ln=some (Zc m r)):=by
      cases ln with
      |giv k=>exact Y21 rfl (Qlw y)
      |_=>rfl
     have ew:rowL rs2 cs2 best2 (U.map (Zc m)) ln=rowL rs2 cs2 best2 (Kv m z S) ln:=Qsr Y aD fun k hk=>by
      have sk:=(ai.mp rfl).2 k hk
      exists sk,?_
      obtain⟨h0,h1⟩:=al (ai.mp rfl).1 k hk
      have hl:k.toNat<S.length:=Om
      have e2:S.getD k.toNat (none,false)=S[k.toNat]:=by rw[jY,gE hl];rfl
      unfold stay at sk
      rw[e2]at sk⊢
      exact ag k.toNat S[k.toNat].1 (by rw[gE hl,<-sk])
     exists 4,4,iteT ⟨_,rfl,_,rfl,_,rfl,_,rfl,ot,l,u,rs2,U.map (Zc m),cs2,best2,L,ln,rfl,bc.same av,tw.l2,Qg (ay _ _ j3),j4.imp (fun _ _ z=>z.same ay),by rw[jQ];lia,?_,aB,aD,n2,m2,AnsO.of fun v2 J7 t7 aq=>?_⟩
     .intro q hq
      obtain⟨q0,h0,rfl⟩:=zJ.mp hq
      show(q0.1++qg m 0).length=_
      rw[jV,zZ,ar q0 h0]
      exact n1
     .rw[ew]at aq
      have bv:=aK.same t7
      cases e7:rowL rs2 cs2 best2 (Kv m z S) ln with
      |none=>
       rw[e7]at aq
       have am:v2=.non:=aq
       subst am
       obtain⟨pw,w1,w2⟩:=id bv
       exists 4,.inl ⟨T,_,rfl,rfl,w1,REST _ _ ⟨false,rfl,az ⟨fun z=>(nomatch z),fun z=>?_⟩,t7⟩⟩
       have:=(ad.mp z).2
       rw[ng,e7]at this;cases this
      |some r7=>
       rw[e7]at aq
       obtain⟨t9,rfl,h9⟩:=aq
       exists 4,.inr ⟨t9,T,rowD r7,rowD (Zc m r),rfl,rfl,h9.hasD,bv.hasD,Qeg (n:=4) _ _,fun c hc=>REST _ _ ⟨c,rfl,az ?_,t7⟩⟩
       rw[hc,ad,ng,e7]
       exists fun z=>⟨rfl,by rw[Qfb z]⟩,fun z=>by rw[Y5 z.2]
  rintro O J8 ⟨s2,rfl,bK,t8⟩
  have af:=ay.trans t8
  have bX:=k5.trans af
  have bY:=aK.same t8
  have bT:=aC.same (t6.trans t8)
  have g1:(Kw rs cs best rs2 cs2 best2 m z S ln).1=rowT rs cs best (S.map (·.1)) (dlD ln):=by
   unfold Kw
   cases rowT rs cs best (S.map (·.1)) (dlD ln)<;>rfl
  have bR:gd=(Kw rs cs best rs2 cs2 best2 m z S ln).1.isSome:=by
   rw[g1]
   cases eo:rowT rs cs best (S.map (·.1)) (dlD ln)with
   |none=>
    cases gd with
    |false=>rfl
    |true=>obtain⟨Z,X⟩:=hg.mp rfl;rw[eo]at X;cases X
   |some Z=>exact hg.mpr ⟨_,eo⟩
  have q1:=af _ _ j1
  have q3:=af _ _ j3
  have q5:=af _ _ j5
  have q6:=af _ _ j6
  have bO:RowsAre K J8 R U:=j2.imp fun _ _ z=>z.same af
  have bG:RowsAre K J8 L (U.map (Zc m)):=j4.imp fun _ _ z=>z.same af
  have lS:(S.map fun p=>V.bl p.1.isSome).length=S.length:=jQ ..
  have cc:(S.map fun p=>V.bl p.2).length=S.length:=jQ ..
  exists 4,.inl ⟨rfl,_,Qg q1⟩,4,I,R,4,rfl,q1,Om,?_
  have u3:upd J8 I (.lst (R++[.ref t])) l=some (.lst L):=by rw[Qj (Ne.symm bk)];exact q3
  have u5:upd J8 I (.lst (R++[.ref t])) G=some (.lst (S.map fun p=>V.bl p.1.isSome)):=by rw[Qj (Ne.symm bA)];exact q5
  have u6:upd J8 I (.lst (R++[.ref t])) W=some (.lst (S.map fun p=>V.bl p.2)):=by rw[Qj (Ne.symm bq)];exact q6
  have uO:RowsAre K (upd J8 I (.lst (R++[.ref t]))) (R++[.ref t]) (U++[r]):=RowsAre.snoc (bO.imp fun _ _ z=>z.upd q1) (bT.upd q1)
  have uW:RowsAre K (upd J8 I (.lst (R++[.ref t]))) L (U.map (Zc m)):=bG.imp fun _ _ z=>z.upd q1
  have uT:RowAt K (upd J8 I (.lst (R++[.ref t]))) T (Zc m r):=bY.upd q1
  have bh:upd J8 I (.lst (R++[.ref t])) I=some (.lst (R++[.ref t])):=upd_same
  have uK:Same H5 (upd J8 I (.lst (R++[.ref t]))):=Zt bX ba
  generalize upd J8 I (.lst (R++[.ref t]))=L1 at u3 u5 u6 uO uW uT bh uK⊢
  exists 4,.inl ⟨rfl,_,Qg u3⟩,4,l,L,4,rfl,u3,Om,?_
  have w5:upd L1 l (.lst (L++[.ref T])) G=some (.lst (S.map fun p=>V.bl p.1.isSome)):=by rw[Qj (Ne.symm a4)];exact u5
  have w6:upd L1 l (.lst (L++[.ref T])) W=some (.lst (S.map fun p=>V.bl p.2)):=by rw[Qj (Ne.symm bx)];exact u6
  have bs:upd L1 l (.lst (L++[.ref T])) I=some (.lst (R++[.ref t])):=by rw[Qj bk];exact bh
  have bt:upd L1 l (.lst (L++[.ref T])) l=some (.lst (L++[.ref T])):=upd_same
  have bm:RowsAre K (upd L1 l (.lst (L++[.ref T]))) (R++[.ref t]) (U++[r]):=uO.imp fun _ _ z=>z.upd u3
  have bi:RowsAre K (upd L1 l (.lst (L++[.ref T]))) (L++[.ref T]) ((U++[r]).map (Zc m)):=by
   rw[kY]
   exact RowsAre.snoc (uW.imp fun _ _ z=>z.upd u3) (uT.upd u3)
  have wK:Same H5 (upd L1 l (.lst (L++[.ref T]))):=Zt uK zW
  generalize upd L1 l (.lst (L++[.ref T]))=L2' at w5 w6 bs bt bm bi wK⊢
  exists 4,.inl ⟨rfl,_,Qg w5⟩,4,G,7,w5,Om,?_
  have z6:upd L2' G (.lst ((S.map fun p=>V.bl p.1.isSome)++[.bl gd])) W=some (.lst (S.map fun p=>V.bl p.2)):=by rw[Qj (Ne.symm bn)];exact w6
  have bu:upd L2' G (.lst ((S.map fun p=>V.bl p.1.isSome)++[.bl gd])) I=some (.lst (R++[.ref t])):=by rw[Qj bA];exact bs
  have be:upd L2' G (.lst ((S.map fun p=>V.bl p.1.isSome)++[.bl gd])) l=some (.lst (L++[.ref T])):=by rw[Qj a4];exact bt
  have a0:upd L2' G (.lst ((S.map fun p=>V.bl p.1.isSome)++[.bl gd])) G=some (.lst ((S.map fun p=>V.bl p.1.isSome)++[.bl gd])):=upd_same
  have aV:RowsAre K (upd L2' G (.lst ((S.map fun p=>V.bl p.1.isSome)++[.bl gd]))) (R++[.ref t]) (U++[r]):=bm.imp fun _ _ z=>z.upd w5
  have aX:RowsAre K (upd L2' G (.lst ((S.map fun p=>V.bl p.1.isSome)++[.bl gd]))) (L++[.ref T]) ((U++[r]).map (Zc m)):=bi.imp fun _ _ z=>z.upd w5
  have zK:Same H5 (upd L2' G (.lst ((S.map fun p=>V.bl p.1.isSome)++[.bl gd]))):=Zt wK zR
  generalize upd L2' G (.lst ((S.map fun p=>V.bl p.1.isSome)++[.bl gd]))=L3 at z6 bu be a0 aV aX zK⊢
  exists 4,.inl ⟨rfl,_,Qg z6⟩,4,W,7,z6,Om,?_
  exists _,_,_,_,_,R++[.ref t],L++[.ref T],U++[r],rfl,by rw[Qj bq];exact bu,aV.imp (fun _ _ z=>z.upd z6),by rw[Qj bx];exact be,aX.imp (fun _ _ z=>z.upd z6),?_,?_,⟨?_,fun k Z b e=>?_⟩,fun q hq=>?_,fun k o e=>?_,Zt zK zS
  .rw[Qj bn,a0,kY,bR];rfl
  .rw[upd_same,kY,bK];rfl
  .rw[jV,jV,aN];rfl
  .by_cases c:k<S.length
   .rw[xW c]at e
    rw[xW Om]
    exact Y.2 k Z b e
   .have hk:=(jW.mp e).1
    rw[jV]at hk
    have bQ:k<S.length+1:=hk
    have ek:k=S.length:=Om
    subst ek
    rw[xJ (jJ _),jKe]at e
    have X:Kw rs cs best rs2 cs2 best2 m z S ln=(some Z,b):=Y5 e
    have e2:rowT rs cs best (S.map (·.1)) (dlD ln)=some Z:=by rw[<-g1,X]
    rw[<-aN,xJ (jJ _),jKe,bo Z e2];rfl
  .rcases xK.mp hq with h | h
   .exact ar q h
   .rw[kW.mp h];exact bI
  .by_cases c:k<S.length
   .rw[xW c]at e
    exact ag k o e
   .have hk:=(jW.mp e).1
    rw[jV]at hk
    have bQ:k<S.length+1:=hk
    have ek:k=S.length:=Om
    subst ek
    rw[xJ (jJ _),jKe]at e
    have X:Kw rs cs best rs2 cs2 best2 m z S ln=(o,true):=Y5 e
    have e3:(Kw rs cs best rs2 cs2 best2 m z S ln).2=true:=by rw[X]
    obtain⟨Z,e4⟩:=hg.mp (ai.mp (ad.mp e3).1).1
    exists Z,by rw[<-g1,X]at e4;exact e4
 .rintro σ J ⟨aE,aM,aP,aw,ao,R,L,U,rfl,j1,j2,j3,j4,j5,j6,Y,ar,ag,k5⟩
  rw[show us.length=C.length by lia,wJ]at j5 j6 Y ag
  have lk:=Vl (rs:=rs) (cs:=cs) (best:=best) (rs2:=rs2) (cs2:=cs2) (best2:=best2) (m:=m) (z:=z) C
  generalize Jd rs cs best rs2 cs2 best2 m z C=S at j5 j6 Y ag lk q
  have aN:=Y.1
  have aG:=Paired.length j4
  rw[jQ]at aG
  have k0:=s5.trans k5
  exists 4,pp,4,.inl (k0.seq aR),4,Om,Om,fun D hD=>?_
  let bg:Nat->St->List V->Hp->Prop:=fun j τ d Jx=>∃v:Option V,τ=[v,some (.ref l),some (.ref W)]/\Jx D=some (.lst d)/\Qlx K Jx m z d (S.take j)/\Same J Jx
  refine Yg (n:=S.length) bg ?_ (fun j τ d Jx hj h=>?_) (fun j τ d Jx hj h=>?_) (fun τ d Jx h=>?_) ?_ ?_
  .exact⟨none,rfl,upd_same,.nil,Qb hD _⟩
  .obtain⟨v,rfl,N,ak,B⟩:=h
   have:=Paired.length ak
   rw[yY]at this
   exists N,Om
  .show j<Int.toNat _;lia
  .show Int.toNat _<=_;lia
  .rintro j τ d Jx x Jy hj ⟨v,rfl,N,ak,B⟩ ⟨rfl,rfl⟩
   obtain⟨p,ep⟩:∃p,S[j]?=some p:=⟨_,gE hj⟩
   obtain⟨ab,b7,e1,e2,bE⟩:=j4.get (gE (show j<L.length by lia))
   have ew:L[j]?=some (.ref ab):=by rw[gE (show j<L.length by lia),e1]
   rw[kJb]
   exists 4,4,l,8,B.seq (Qg j3),Zx ew,Z1 2,fun g2 br=>?_
   have a2:=Qb br (.lst [.non,.ref ab])
   have b2:upd Jy g2 (.lst [.non,.ref ab]) g2=some (.lst [.non,.ref ab]):=upd_same
   have b5:D≠g2:=Qi N br
   have an:=a2 _ _ N
   generalize upd Jy g2 (.lst [.non,.ref ab])=Jk at a2 b2 an⊢
   have k3:=B.trans a2
   have eb:atI (S.map fun p=>V.bl p.2) ((j:Nat):Int)=some (.bl p.2):=Zx (by rw[jZ,ep];rfl)
   exists 4,4,W,8,k3.seq (Qg j6),eb,.inr ⟨_,rfl,?_⟩
   have aY:Qlx K Jk m z d (S.take j):=Paired.mapP ak fun v p z=>by
    by_cases c:p.2=true
    .rw[Y22 c]at z⊢;obtain⟨t,e,y⟩:=z;exists t,e,y.same a2
    .rw[Y20 c]at z⊢;exact z
   have up:∀{x:V},Qlx K Jk m z d (S.take j)->Qlx K (upd Jk D (.lst (d++[x]))) m z d (S.take j):=fun{x} h=>Paired.mapP h fun v p z=>by
    by_cases c:p.2=true
    .rw[Y22 c]at z⊢;obtain⟨t,e,y⟩:=z;exists t,e,y.upd an
    .rw[Y20 c]at z⊢;exact z
   have kD:∀{x:V},Same J (upd Jk D (.lst (d++[x]))):=fun{x} b o e=>by rw[Qj (Qi e hD)];exact k3 _ _ e
   by_cases c:p.2=true
   .rw[c]
    exists g2,8,Qg b2,(show atI [V.non,.ref ab] 1=some (.ref ab)from rfl),an,4,upd_same,?_,kD
    rw[Zh ep]
    refine Paired.snoc (up aY) ?_
    rw[Y22 c]
    obtain⟨r,er⟩:=ag j p.1 (by rw[ep,<-c])
    have e5:(U.map (Zc m))[j]?=some (Zc m r):=by rw[jZ,Y.2 j r p.2 (by rw[ep,<-er])];rfl
    rw[e5]at e2
    cases e2
    rw[er]
    exists ab,rfl,(bE.same k3).upd an
   .have cf:p.2=false:=by simpa using c
    rw[cf]
    exists g2,8,Qg b2,(show atI [V.non,.ref ab] 0=some .non from rfl),an,4,upd_same,?_,kD
    rw[Zh ep]
    refine Paired.snoc (up aY) ?_
    rw[Y20 c]
  .rintro τ d Jx ⟨v,rfl,N,ak,B⟩
   rw[wJ]at ak
   exact q D d Jx (k0.trans B) (Qau k0 hD) N ak
abbrev sMv:Stmt:=top 63
def mvF(a:Nat)(k:Int):Int:=k+(if decide (((a:Nat):Int)<=k)=true then 1 else 0)
def DLg(K:Fg)(H:Hp)(g u:Addr):DL->Prop
 |.sm ps=>∃l,SqT K H u [.str "sum",.ref l]/\∀zs,HoldsAt K (upd H g (.lst zs)) l ps
 |.sht o hs=>∃l,SqT K H u [.str "shut",.int o,.ref l]/\∀zs,HoldsAt K (upd H g (.lst zs)) l hs
 |.lik t=>∃l,SqT K H u [.str "like",.ref l]/\∀zs,SqL K (upd H g (.lst zs)) l ((tI t).map V.int)
 |ln=>DLAt K H u ln
theorem Qpz(h:H g=some o):upd H g o=H:=funext fun b=>by
 by_cases c:b=g
 .rw[c,upd_same,h]
 .rw[Qj c]
theorem Qbn(s:Same H H')(g:Addr)(o:HO):Same (upd H g o) (upd H' g o):=fun b x e=>by
 by_cases c:b=g
 .rw[c,upd_same]at e⊢;exact e
 .rw[Qj c]at e⊢;exact s _ _ e
theorem DLg.at{u:Addr}(h:DLg K H g u ln)(c:H g=some (.lst ys)):DLAt K H u ln:=by
 cases ln with
 |sm ps=>obtain⟨l,a,b⟩:=h;have:=b ys;rw[Qpz c]at this;exists l,a,this
 |sht o hs=>obtain⟨l,a,b⟩:=h;have:=b ys;rw[Qpz c]at this;exists l,a,this
 |lik t=>obtain⟨l,a,b⟩:=h;have:=b ys;rw[Qpz c]at this;exists l,a,this
 |_=>exact h
theorem DLg.of{u:Addr}(h:DLAt K H0 u ln)(s:Same H0 H)(f:H0 g=none):DLg K H g u ln:=by
 have z:∀c,Same H0 (upd H g (.lst c)):=fun c b o e=>by rw[Qj (Qi e f)];exact s _ _ e
 have d:=h.same s
 cases ln with
 |sm ps=>obtain⟨l,a,b⟩:=h;exists l,s.tup a,fun c=>b.same (z c)
 |sht o hs=>obtain⟨l,a,b⟩:=h;exists l,s.tup a,fun c=>b.same (z c)
 |lik t=>obtain⟨l,a,b⟩:=h;exists l,s.tup a,fun c=>(z c).seq b
 |_=>exact d
theorem DLg.same{u:Addr}(h:DLg K H g u ln)(s:Same H H'):DLg K H' g u ln:=by
 cases ln with
 |sm ps=>obtain⟨l,a,b⟩:=h;exists l,s.tup a,fun c=>(b c).same (Qbn s _ _)
 |sht o hs=>obtain⟨l,a,b⟩:=h;exists l,s.tup a,fun c=>(b c).same (Qbn s _ _)
 |lik t=>obtain⟨l,a,b⟩:=h;exists l,s.tup a,fun c=>(Qbn s _ _).seq (b c)
 |_=>exact s.tup h
theorem DLg.upd{u:Addr}(h:DLg K H g u ln)(c:H g=some (.lst ys)):DLg K (L2.upd H g (.lst zs)) g u ln:=by
 cases ln with
 |sm ps=>obtain⟨l,a,b⟩:=h;exists l,Xv c a,fun w=>by rw[L2.upd_upd];exact b w
 |sht o hs=>obtain⟨l,a,b⟩:=h;exists l,Xv c a,fun w=>by rw[L2.upd_upd];exact b w
 |lik t=>obtain⟨l,a,b⟩:=h;exists l,Xv c a,fun w=>by rw[L2.upd_upd];exact b w
 |_=>exact Xv c h
inductive spMv(K:Fg)(vs:List V)(H:Hp)(Q:VK)(E:XK):Prop|mk(u g:Addr)(ys:List V)(ln:DL)(n a:Nat)(_:vs=[.ref u,.int ((a:Nat):Int)])(_:H g=some (.lst ys))(_:DLg K H g u ln)(_:DLok n ln)(_:n<=20)(_:∀(u':Addr) (H':Hp),Same H H'->DLg K H' g u' (ln.ren (mvF a))->Q (.ref u') H'):spMv K vs H Q E
theorem wd_two(h:inV (.str (Vw ln)) (qA 0)=true):(∃o b,ln=.shr o b)\/∃o hs,ln=.sht o hs:=by
 cases ln with
 |shr o b=>exact .inl ⟨o,b,rfl⟩
 |sht o hs=>exact .inr ⟨o,hs,rfl⟩
 |giv k=>exact Y21 (show inV (.str "given") (qA 0)=true from h) Dk
 |low k=>exact Y21 (show inV (.str "low") (qA 0)=true from h) Dk
 |high k=>exact Y21 (show inV (.str "high") (qA 0)=true from h) Dk
 |bet=>exact Y21 (show inV (.str "better") (qA 0)=true from h) Dk
 |no=>exact Y21 (show inV (.str "no") (qA 0)=true from h) Dk
 |sm ps=>exact Y21 (show inV (.str "sum") (qA 0)=true from h) Dk
 |eit o p c=>exact Y21 (show inV (.str "either") (qA 0)=true from h) Dk
 |lik t=>exact Y21 (show inV (.str "like") (qA 0)=true from h) Dk
theorem scMv:FnScope ["_law_line","_law_at"] ["_law_line","_law_at"] (Qf sMv):=Sc
theorem okMv(F:Fn K mg "_law_moved" sMv)(M:Mg mg):qC 1 "_law_moved" ["_law_line","_law_at"] (spMv K):=by
 refine Xf F scMv (a:=fun f ag A ab s H vs Q E hr h=>?_)
 obtain⟨u,g,ad,X,n,a,rfl,hg,hG,ae,hn,q⟩:=h
 have r:=hG.at hg
 refine⟨_,(Qd (Xg (Qr Yh (Qo Qm (pv 0) Qe) Xj (Qs _)) (Qh (Qp (Qy (Qa Xj (Qa (Zn ["_law_place","_law_times_over","_law_at"] [none,none,some 1] rfl (Xq (Qo Qm (pv 0) Qe)) (fun _ _ _=>(Yb (K:=K) (i:=0) (j:=1) rfl rfl (show(["_law_place","_law_times_over","_law_at"]:List Str).Nodup by decide +kernel) rfl rfl rfl rfl)) (fun _ _ _=>Yc) (fun _ _ _=>(Qy (Qa (Qu Yp (pv 0) (Qz Jp rfl M.int_ Vc (Qa (Xz Qfu (pv 0) (pv 2) (Qs _)) Qc))) (Qa (pv 1) Qc))))) Qc))))) Qq)
  (Qd (Xg (Qr Wl (Qo Qm (pv 0) Qe) (Qy (Qa Xj (Qa Xj Qc))) rfl) (Qh (Qp (Qy (Qa (Qo Qm (pv 0) Qe) (Qa (Qu Yp (Qo Qm (pv 0) Qe) (Qz Jp rfl M.int_ Vc (Qa (Xz Qfu (Qo Qm (pv 0) Qe) (pv 1) (Qs _)) Qc))) (Qa (Qo Qm (pv 0) Qe) Qc)))))) Qq)
  (Qd (Xg (Qr Yh (Qo Qm (pv 0) Qe) Xj (Qs _)) (Qh (Qp (Qy (Qa Xj (Qa (Qu Yp (Qo Qm (pv 0) Qe) (Qz Jp rfl M.int_ Vc (Qa (Xz Qfu (Qo Qm (pv 0) Qe) (pv 1) (Qs _)) Qc))) (Qa (Qu Yp (Qo Qm (pv 0) Qe) (Qz Jp rfl M.int_ Vc (Qa (Xz Qfu (Qo Qm (pv 0) Qe) (pv 1) (Qs _)) Qc))) (Qa (Qo Qm (pv 0) Qe) Qc))))))) Qq)
  (Qh (Qp (pv 0)))))),?_⟩
 exists"z"
 obtain⟨xs,hW⟩:=Qiv r
 exists 4,u,8,hW,atW,rfl,4,ite2 (fun y=>?_) (fun y=>?_)
 .obtain⟨W,rfl⟩:=wd_sm (eqStr y)
  obtain⟨l,G,ws,J,R⟩:=id r
  have lv:=R.length
  rw[jQ]at lv
  have af:W.length<=10:=ae.1
  exists 4,u,8,G,at1,l,rfl,⟨_,J⟩,fun D hD=>?_
  let N:Nat->St->List V->Hp->Prop:=fun i τ C L=>∃v Z:Option V,τ=[v,Z,some (.int ((a:Nat):Int))]/\L D=some (.lst C)/\PairsAre K L C (((W.take i).map fun p=>(mvF a p.1,p.2)).map fun p=>(p.1,V.int p.2))/\C.length=i/\Same H L
  refine Z5 ws (show _=W.length from Om) N ?_ (fun i τ C L hi h=>?_) ?_ ?_
  .exact⟨none,none,rfl,upd_same,.nil,rfl,Qb hD _⟩
  .obtain⟨v,Z,rfl,U,S,O,t⟩:=h
   exists ⟨U,Om⟩,t.seq J
  .rintro i τ C L x H3 hi ⟨v,Z,rfl,U,S,O,t⟩ ⟨rfl,e1⟩
   obtain⟨T,c,w,rfl,ec,hT⟩:=Yw R (e1 _ (t.seq J)) t
   exists T,4,hT,rfl,_,4,7,4,4,4,7,.inr ⟨_,rfl,_,_,rfl,rfl,_,rfl,Z1 2,fun t2 aa=>?_⟩
   have k:=Qb aa (.tup [.int (mvF a c),.int w])
   have B:=k _ _ U
   exists B,_,4,upd_same,?_,by rw[jV,O];rfl,fun b o e=>?_
   .rw[Zh ec,kY,kY]
    exact Paired.snoc (PairsAre.updL B (PairsAre.same k S)) ⟨t2,rfl,Xv B (Qn upd_same)⟩
   .rw[Qj (Qi e hD)];exact k _ _ (t _ _ e)
  rintro τ C L ⟨v,Z,rfl,U,S,O,t⟩
  rw[zX (jJ _)]at S
  exists Z1 2,fun I m=>?_
  have Y:=Qb m (.tup [.str "sum",.ref D])
  have ac:D≠g:=fun z=>by rw[z,hg]at hD;cases hD
  exact q I _ (t.trans Y) ⟨D,Qn upd_same,fun zs=>⟨C,Qg (by rw[Qj ac];exact Y _ _ U),PairsAre.updL (Y _ _ (t _ _ hg)) (PairsAre.same Y S)⟩⟩
 exists 4,u,8,hW,atW,Z1 2,fun T hT=>?_
 have k:=Qb hT (.tup (qA 0))
 have b3:SqT K (upd H T (.tup (qA 0))) T (qA 0):=Qn upd_same
 generalize upd H T (.tup (qA 0))=J3 at k b3⊢
 exists T,4,.inr b3,rfl,rfl,4,ite2 (fun y2=>?_) (fun y2=>?_)
 .rcases wd_two y2 with⟨o,b,rfl⟩ | ⟨o,hs,rfl⟩
  .have G:SqT K H u _:=r
   have d:=k.tup G
   exists 4,u,8,d,at30,4,u,8,d,at31,4,u,8,d,at31,4,7,.inr ⟨_,rfl,_,_,rfl,rfl,_,rfl,u,_,_,_,rfl,rfl,d,at32,Z1 3,fun I m=>?_⟩
   exact q I _ (k.trans (Qb m _)) (Qn upd_same)
  .obtain⟨l,G,O⟩:=id hG
   have d:=k.tup G
   exists 4,u,8,d,at30,4,u,8,d,at31,4,u,8,d,at31,4,7,.inr ⟨_,rfl,_,_,rfl,rfl,_,rfl,u,_,_,_,rfl,rfl,d,at32,Z1 3,fun I m=>?_⟩
   have a4:=Qb m (.tup [.str "shut",.int (mvF a o),.ref l])
   exact q I _ (k.trans a4) ⟨l,Qn upd_same,fun zs=>(O zs).same (Qbn (k.trans a4) _ _)⟩
 exists 4,u,8,k.tup hW,atW,rfl,4,ite2 (fun y3=>?_) (fun y3=>?_)
 .obtain⟨o,p,c,rfl⟩:=Qtr (eqStr y3)
  have G:SqT K H u _:=r
  have d:=k.tup G
  exists 4,u,8,d,at41,4,u,8,d,at41,4,7,.inr ⟨_,rfl,_,_,rfl,rfl,_,rfl,u,_,_,_,rfl,rfl,d,at42,_,rfl,u,_,_,_,rfl,rfl,d,at42,_,rfl,_,_,rfl,rfl,.inr ⟨_,rfl,_,_,rfl,rfl,_,rfl,u,_,_,_,rfl,rfl,d,at43,Z1 4,fun I m=>?_⟩⟩
  exact q I _ (k.trans (Qb m _)) (Qn upd_same)
 exists 4,q u _ k ?_
 have same:X.ren (mvF a)=X:=by
  cases X with
  |sm W=>exact Y21 rfl (Qlw y)
  |shr o b=>exact Y21 (show inV (.str "share") (qA 0)=true by decide +kernel) y2
  |sht o hs=>exact Y21 (show inV (.str "shut") (qA 0)=true by decide +kernel) y2
  |eit o p c=>exact Y21 rfl (Qlw y3)
  |_=>rfl
 rw[same]
 exact hG.same k
abbrev sOth:Stmt:=top 62
def RowsV(K:Fg)(H:Hp)(n:Nat)(vs:List V):Prop:=∀v∈vs,∃t r,v=.ref t/\RowAt K H t r/\r.1.length=n
theorem RowsV.same(h:RowsV K H n vs)(s:Same H H'):RowsV K H' n vs:=fun v hv=>let ⟨t,r,e,z,l⟩:=h v hv;⟨t,r,e,z.same s,l⟩
theorem RowsV.of(h:RowsAre K H vs rs)(a:∀r∈rs,r.1.length=n):RowsV K H n vs:=fun v hv=>by
 obtain⟨i,c,e⟩:=jJb.mp hv
 obtain⟨t,r,d,b,z⟩:=h.get (i:=i) (v:=v) (by rw[gE c,e])
 exists t,r,d,z,a r (kK b)
theorem RowsV.ex{K:Fg}{H:Hp}{n:Nat}:∀{vs:List V},RowsV K H n vs->∃rs:List Rw,RowsAre K H vs rs/\∀r∈rs,r.1.length=n
 |[],_=>⟨[],.nil,fun _ h=>nomatch h⟩
 |v::vs,h=>by
  obtain⟨t,r,e,z,l⟩:=h v kZ
  obtain⟨rs,c,b⟩:=RowsV.ex (vs:=vs) fun x a=>h x (yW _ a)
  exists r::rs,.cons ⟨t,e,z⟩ c,fun x a=>(yK.mp a).elim (fun e=>e▸l) (b x)
theorem Qfn{x:V}(h:x∈cutV xs lo hi):x∈xs:=by
 unfold cutV at h
 exact kKe (kYc h)
inductive spOth(K:Fg)(vs:List V)(H:Hp)(Q:VK)(E:XK):Prop|mk(t a:Addr)(rs:List Rw)(cs ns:List Int)(_:vs=[.ref t,.ref a])(_:ProbT K H t rs cs)(_:(∀r∈rs,r.1.length=cs.length))(_:cs.length<=5)(_:rs.length<=5)(_:SqL K H a (ns.map V.int))(_:(∀n∈ns,Bits n))(_:∀(t2:Addr) (rs2:List Rw) (cs2:List Int) (m:Nat) (H':Hp),Same H H'->ProbAt K H' t2 rs2 cs2->Two rs cs rs2 cs2 m->Q (.ref t2) H'):spOth K vs H Q E
theorem scOth:FnScope ["_law_problem_here","_law_script","_law_rows","_law_costs","_law_cell","_law_left_here","_law_word","_law_extra","_law_at","_law_more"] ["_law_problem_here","_law_script"] (Qf sOth):=Sc
theorem okOth(F:Fn K mg "_law_other" sOth)(M:Mg mg)(N:qC 1 "_law_cell_at" ["_law_script","_law_k"] (Qdb K))(ac:qC 2 "_law_left" ["_law_script","_law_k"] (Qiw K))(ab:qC 2 "_law_draw" ["_law_left_here","_law_base"] Qpv):qC 3 "_law_other" ["_law_problem_here","_law_script"] (spOth K):=by
 refine Xf F scOth (a:=fun f aN A aF s H k Q E hr h=>?_)
 obtain⟨t,a,rs,O,ns,rfl,hP,ag,aT,aQ,hS,hB,q⟩:=h
 obtain⟨l,c,k,ht,hl,aw,hc⟩:=id hP
 have lv:=aw.length
 have hV:=RowsV.of aw ag
 refine⟨_,(Qd (Zp (pv 0) (Yb (K:=K) (i:=2) (j:=3) rfl rfl scOth.nd rfl rfl rfl rfl))
  (Qd (Z4 4 scOth.nd (Xc N (hr.mono Dc) (Qa (pv 1) (Qa Qe Qc))))
  (Qd (Z4 5 scOth.nd (Xc ac (hr.mono Dc) (Qa (pv 1) (Qa Qe Qc))))
  (Qd (Zp (Xo (Qa (Qu Yl (pv 4) Qe) (Qa (Qu Ys (Qu Yl (Qu Zq (pv 4) Qe) Qe) Qe) Qc))) (Qsi (K:=K) (i:=6) (j:=7) rfl rfl scOth.nd rfl rfl rfl rfl))
  (Qd (Z4 8 scOth.nd (Qu Yl (Qu Zq (pv 4) Qe) (Qk (Kc rfl) rfl M.max Qdl (Qa Qe (Qa (qL (pv 2)) Qc)))))
  (Qd (Xg (Qr Yh (pv 6) Qe (Qs _)) (Qh (Qp (Qy (Qa (Qu Qgc (Yi Kg (pv 2) Zv (Yj (pv 8))) (Yi Kg (pv 2) (Yj (Qu Yp (pv 8) Qe)) Zv)) (Qa (pv 3) Qc))))) Qq)
  (Qd (Xg (Qr Yh (pv 6) Qe (Qs _)) (Qh (Qp (Qy (Qa (Qu Qgc (pv 2) (Xo (Qa (Qy (Qa (Qz Xb rfl M.tuple_ Xp (Qa (Zn ["_law_cost","_law_left_here"] [none,some 5] rfl (Qaw (pv 3)) (fun _ _ _=>(Z3 0 (show(["_law_cost","_law_left_here"]:List Str).Nodup by decide +kernel))) (fun _ _ _=>Yc) (fun _ _ _=>(Qu Ys (Xc ab (hr.mono Dc) (Qa (pv 1) (Qa Qe Qc))) Qe))) Qc)) (Qa (pv 7) Qc))) Qc))) (Qa (pv 3) Qc))))) Qq)
  (Qd (Xg (Qr Yh (pv 6) Qe (Qs _)) (Qh (Qp (Qy (Qa (Qu Qgc (Yi Kg (pv 2) (Yj (pv 8)) Zv) (pe_rev (Yi Kg (pv 2) Zv (Yj (pv 8))) (Yj (Wi Jr Qe)))) (Qa (pv 3) Qc))))) Qq)
  (Qd (Xg (PW.pt (Ko (Qr Yh (pv 6) Qe (Qs _)) (Ju (Qr Qub (qL (pv 3)) Qe (Qs _))))) (Qh (Qp (Qy (Qa (pv 2) (Qa (Qu Qiu (Qy (Qa (pv 7) Qc)) (Yi Qnu (pv 3) (Yj Qe) Zv)) Qc))))) Qq)
  (Qd (Xg (Qr Qub (pv 6) Qe (Qs _)) (Qd (Z4 9 scOth.nd (Yi Qnu (Qy (Qa (Qu Wj (pv 7) (Qu Ys (pv 6) Qe)) (Qa Qe Qc))) Zv (Yj (Qu Yp Qe (Qu Yl (Qu Zq (pv 4) Qe) Qe)))))
  (Qh (Qp (Qy (Qa (Zn ["_law_numbers","_law_least","_law_more"] [none,none,some 9] rfl (Xq (pv 2)) (fun _ _ _=>(Yb (K:=K) (i:=0) (j:=1) rfl rfl (show(["_law_numbers","_law_least","_law_more"]:List Str).Nodup by decide +kernel) rfl rfl rfl rfl)) (fun _ _ _=>Yc) (fun _ _ _=>(Qy (Qa (Qu (Qqz (K:=K) rfl) (pv 0) (Qu (Qrc (K:=K) rfl) (Qy (Qa Qe Qc)) (Qk (Qee (K:=K) rfl) rfl M.len Xa (Qa (pv 2) Qc)))) (Qa (pv 1) Qc))))) (Qa (Qu Qca (pv 3) (pv 9)) Qc)))))) Qq)
  (Qh (Qp (pv 0))))))))))))),?_⟩
 exists"z"
 have done:∀(T g c2:Addr) (us:List V) (Y:List Int) (m:Nat) (H':Hp),Same H H'->SqT K H' T [.ref g,.ref c2]->SqL K H' g us->RowsV K H' Y.length us->us.length<=20->SqT K H' c2 (Y.map V.int)->O.length+m=Y.length->Y.length<=20->Q (.ref T) H':=fun T g c2 us Y m H' s' Z hg hR hu ad hm aC=>by
  obtain⟨aG,r1,r2⟩:=hR.ex
  have:=r1.length
  exact q T aG Y m H' s' ⟨g,c2,us,Z,hg,r1,ad⟩ ⟨ag,r2,hm,aC,Om,Om⟩
 exists 4,t,4,ht,rfl,_,4,7,?_
 exists 4,a,ns,10,rfl,hS,hB,Dc,fun d _=>?_
 exists 4,a,ns,11,rfl,hS,hB,Dc,fun lf x f fl hx=>?_
 have a1:=Qb fl (.lst [.int x,.int f,.int 0])
 have b1:upd H lf (.lst [.int x,.int f,.int 0]) lf=some (.lst [.int x,.int f,.int 0]):=upd_same
 generalize upd H lf (.lst [.int x,.int f,.int 0])=H1 at a1 b1⊢
 exists 4,7,by show(0:Int)<7;decide,_,rfl,_,_,rfl,rfl,⟨Dc,Dc⟩,_,_,rfl,rfl,by show(0:Int)<9;decide,_,_,rfl,rfl,Z1 2,fun p hp=>?_
 have a2:=Qb hp (.lst [.int (d % 7),.int (d / 7 % 9-4)])
 have b2:upd H1 p (.lst [.int (d % 7),.int (d / 7 % 9-4)]) p=some (.lst [.int (d % 7),.int (d / 7 % 9-4)]):=upd_same
 generalize upd H1 p (.lst [.int (d % 7),.int (d / 7 % 9-4)])=H2 at a2 b2⊢
 have s2:=a1.trans a2
 have av:=a2 _ _ b1
 exists p,4,Qg b2,rfl,_,4,7,?_
 have af:=s2 _ _ hl
 have ad:=s2.tup hc
 obtain⟨J,J0,eJ⟩:∃J:Int,0<J/\(if (k.length:Int) > 1 then(k.length:Int)else 1)=J:=⟨_,by split<;>lia,rfl⟩
 exists 4,7,⟨Dc,Dc⟩,4,l,4,.inl (Qg af),_,4,d / 63,J,rfl,congrArg V.int eJ,J0,?_
 have e9:-4<=d / 7 % 9-4/\d / 7 % 9-4<=4:=Om
 generalize d / 7 % 9-4=ex at e9⊢
 generalize d % 7=wd
 clear b2
 exists 4,rfl,4,ite2 (fun y=>?_) (fun y=>?_)
 .refine⟨_,rfl,_,rfl,_,rfl,l,_,rfl,Qg af,fun I U=>?_⟩
  have X:=Qb U (.lst (cutV k none (some (d / 63 % J))))
  have b3:upd H2 I (.lst (cutV k none (some (d / 63 % J)))) I=some (.lst (cutV k none (some (d / 63 % J)))):=upd_same
  generalize upd H2 I (.lst (cutV k none (some (d / 63 % J))))=H3 at X b3⊢
  exists 4,4,7,4,l,4,Qg (X _ _ af),fun R G=>?_
  have a4:=Qb G (.lst (cutV k (some ((d / 63 % J)+1)) none))
  have b4:upd H3 R (.lst (cutV k (some ((d / 63 % J)+1)) none)) R=some (.lst (cutV k (some ((d / 63 % J)+1)) none)):=upd_same
  generalize upd H3 R (.lst (cutV k (some ((d / 63 % J)+1)) none))=H4 at a4 b4⊢
  have l1:=Zw k none (some (d / 63 % J))
  have l2:=Zw k (some ((d / 63 % J)+1)) none
  exists I,R,7,a4 _ _ b3,b4,Om,fun g hg=>?_
  have a5:=Qb hg (.lst (cutV k none (some (d / 63 % J))++cutV k (some ((d / 63 % J)+1)) none))
  have b5:upd H4 g (.lst (cutV k none (some (d / 63 % J))++cutV k (some ((d / 63 % J)+1)) none)) g=some (.lst (cutV k none (some (d / 63 % J))++cutV k (some ((d / 63 % J)+1)) none)):=upd_same
  generalize upd H4 g (.lst (cutV k none (some (d / 63 % J))++cutV k (some ((d / 63 % J)+1)) none))=B at a5 b5⊢
  exists 4,Z1 2,fun T Z=>?_
  have W:=Qb Z (.tup [.ref g,.ref c])
  have s6:=((s2.trans X).trans (a4.trans a5)).trans W
  exact done T g c _ O 0 _ s6 (Qn upd_same) (Qg (W _ _ b5)) (fun v hv=>hV.same s6 v ((xK.mp hv).elim Qfn Qfn)) (by rw[jV];lia) (s6.tup hc) rfl Om
 exists 4,rfl,4,ite2 (fun y2=>?_) (fun y2=>?_)
 .refine⟨_,rfl,_,rfl,c,rfl,⟨_,ad⟩,fun D hD=>?_⟩
  have nD:D≠lf:=fun w=>by rw[w,av]at hD;cases hD
  let ar:Nat->St->List V->Hp->Prop:=fun j τ L B=>∃(v:Option V) (u:List Int) (x:Int),τ=[v,some (.ref lf)]/\L=u.map V.int/\u.length=j/\B D=some (.lst L)/\B lf=some (.lst [.int x,.int f,.int (j:Int)])/\Bits x/\Same H B
  refine Yg (n:=O.length) ar ?_ (fun j τ L B hj h=>?_) (fun j τ L B hj h=>?_) (fun τ L B h=>?_) ?_ ?_
  .exact⟨none,[],x,rfl,rfl,rfl,upd_same,by rw[Qj (Ne.symm nD)];exact av,hx,s2.trans (Qb hD _)⟩
  .obtain⟨v,u,x,rfl,rfl,rfl,S,C,ae,kp⟩:=h
   exists S,by rw[jQ];lia
  .obtain⟨v,u,x,rfl,rfl,rfl,S,C,ae,kp⟩:=h
   exists _,_,kp.tup hc,gE (by rw[jQ];exact hj)
  .obtain⟨v,u,x,rfl,rfl,hm,S,C,ae,kp⟩:=h
   exists _,kp.tup hc,by rw[jQ];exact jJ _
  .rintro j τ L B y H6 hj ⟨v,u,x,rfl,rfl,rfl,S,C,ae,kp⟩ ⟨rfl,_⟩
   exists 4,lf,x,f,_,5,rfl,C,ae,Om,Om,Dc,Dc,fun z' x' aB z0 z1=>⟨_,_,rfl,rfl,by rw[Qj nD];exact S,_,u++[_],x',rfl,by rw[kY];rfl,by rw[jV];rfl,upd_same,by rw[Qj (Ne.symm nD),upd_same];rfl,aB,fun b o e=>?_⟩
   rw[Qj (Qi (s2 _ _ e) hD),Qj (Qi e fl)]
   exact kp _ _ e
  .rintro τ L B ⟨v,u,x,rfl,rfl,aK,S,C,ae,kp⟩
   exists D,4,.inl ⟨Qg S,fun l2 aI=>?_⟩
   have W:=Qb aI (.tup (u.map V.int))
   have b6:upd B l2 (.tup (u.map V.int)) l2=some (.tup (u.map V.int)):=upd_same
   generalize upd B l2 (.tup (u.map V.int))=H6 at W b6⊢
   have s6:=kp.trans W
   exists 4,Z1 2,fun r0 aE=>?_
   have a7:=Qb aE (.tup [.ref l2,.int ex])
   have b7:upd H6 r0 (.tup [.ref l2,.int ex]) r0=some (.tup [.ref l2,.int ex]):=upd_same
   generalize upd H6 r0 (.tup [.ref l2,.int ex])=H7 at a7 b7⊢
   have s7:=s6.trans a7
   exists Z1 1,fun g1 aH=>?_
   have a8:=Qb aH (.lst [.ref r0])
   have b8:upd H7 g1 (.lst [.ref r0]) g1=some (.lst [.ref r0]):=upd_same
   generalize upd H7 g1 (.lst [.ref r0])=H8 at a8 b8⊢
   have s8:=s7.trans a8
   exists l,g1,7,s8 _ _ hl,b8,by show k.length+1<=_;lia,fun g hg=>?_
   have a9:=Qb hg (.lst (k++[.ref r0]))
   have b9:upd H8 g (.lst (k++[.ref r0])) g=some (.lst (k++[.ref r0])):=upd_same
   generalize upd H8 g (.lst (k++[.ref r0]))=H9 at a9 b9⊢
   exists 4,Z1 2,fun T Z=>?_
   have au:=Qb Z (.tup [.ref g,.ref c])
   have ao:=(a8.trans a9).trans au
   have am:=s7.trans ao
   exact done T g c _ O 0 _ am (Qn upd_same) (Qg (au _ _ b9)) (fun v hv=>(xK.mp hv).elim (hV.same am v) fun z=>⟨r0,(u,ex),kW.mp z,⟨l2,ao.tup (Qn b7),(a7.trans ao).tup (Qn b6)⟩,aK⟩) (by rw[jV];show k.length+1<=20;lia) (am.tup hc) rfl Om
 exists 4,rfl,4,ite2 (fun y3=>?_) (fun y3=>?_)
 .refine⟨_,rfl,_,rfl,_,rfl,l,_,rfl,Qg af,fun I U=>?_⟩
  have X:=Qb U (.lst (cutV k (some (d / 63 % J)) none))
  have b3:upd H2 I (.lst (cutV k (some (d / 63 % J)) none)) I=some (.lst (cutV k (some (d / 63 % J)) none)):=upd_same
  generalize upd H2 I (.lst (cutV k (some (d / 63 % J)) none))=H3 at X b3⊢
  exists 4,4,4,l,4,Qg (X _ _ af),fun R G=>?_
  have a4:=Qb G (.lst (cutV k none (some (d / 63 % J))))
  have b4:upd H3 R (.lst (cutV k none (some (d / 63 % J)))) R=some (.lst (cutV k none (some (d / 63 % J)))):=upd_same
  generalize upd H3 R (.lst (cutV k none (some (d / 63 % J))))=H4 at a4 b4⊢
  exists 4,4,R,4,rfl,Qg b4,fun p3 ai=>?_
  have a5:=Qb ai (.lst (cutV k none (some (d / 63 % J))).reverse)
  have b5:upd H4 p3 (.lst (cutV k none (some (d / 63 % J))).reverse) p3=some (.lst (cutV k none (some (d / 63 % J))).reverse):=upd_same
  generalize upd H4 p3 (.lst (cutV k none (some (d / 63 % J))).reverse)=B at a5 b5⊢
  have l1:=Zw k (some (d / 63 % J)) none
  have l2:=Zw k none (some (d / 63 % J))
  exists I,p3,7,(a4.trans a5) _ _ b3,b5,by rw[yQb];lia,fun g hg=>?_
  have W:=Qb hg (.lst (cutV k (some (d / 63 % J)) none++(cutV k none (some (d / 63 % J))).reverse))
  have b6:upd B g (.lst (cutV k (some (d / 63 % J)) none++(cutV k none (some (d / 63 % J))).reverse)) g=some (.lst (cutV k (some (d / 63 % J)) none++(cutV k none (some (d / 63 % J))).reverse)):=upd_same
  generalize upd B g (.lst (cutV k (some (d / 63 % J)) none++(cutV k none (some (d / 63 % J))).reverse))=H6 at W b6⊢
  exists 4,Z1 2,fun T Z=>?_
  have a7:=Qb Z (.tup [.ref g,.ref c])
  have s7:=(((s2.trans X).trans (a4.trans a5)).trans W).trans a7
  exact done T g c _ O 0 _ s7 (Qn upd_same) (Qg (a7 _ _ b6)) (fun v hv=>hV.same s7 v ((xK.mp hv).elim Qfn fun z=>Qfn (List.mem_reverse.mp z))) (by rw[jV,yQb];lia) (s7.tup hc) rfl Om
 have ah:=q t rs O 0 H2 s2 (ProbAt.same s2 hP.at) ⟨ag,ag,rfl,Om,Om,Om⟩
 exists 4,rfl,4,ite2 (fun y4=>?_) (fun y4=>iteF ?_)
 .refine⟨_,rfl,c,_,rfl,.inr ad,_,_,rfl,rfl,_,rfl,ite2 (fun y5=>?_) (fun _=>?_)⟩
  .refine⟨_,rfl,_,rfl,Z1 1,fun I U=>?_⟩
   have X:=Qb U (.tup [.int ex])
   have b3:upd H2 I (.tup [.int ex]) I=some (.tup [.int ex]):=upd_same
   generalize upd H2 I (.tup [.int ex])=H3 at X b3⊢
   exists 4,4,c,4,X.tup ad,fun R H4 a4 G=>?_
   have e4:∃u:List Int,cutV (O.map V.int) (some 1) none=u.map V.int/\1+u.length=O.length:=by
    cases O with
    |nil=>exact Y21 (yQ y5) Dc
    |cons z O=>exists O,(by unfold cutV;simp[HT.sIx];exact zX (by rw[jQ];exact jJ _)),by rw[zV];lia
   obtain⟨u,al,aO⟩:=e4
   rw[al]at G
   exists I,R,7,a4.tup (Qn b3),G,by rw[jQ];show 1+u.length<=_;lia,fun p3 B a5 ai=>?_
   have s5:=(s2.trans X).trans (a4.trans a5)
   exists Z1 2,fun T Z=>?_
   have W:=Qb Z (.tup [.ref l,.ref p3])
   have s6:=s5.trans W
   have e5:(ex::u).length=O.length:=by rw[zV];lia
   exact done T l p3 k (ex::u) 0 _ s6 (Qn upd_same) (Qg (s6 _ _ hl)) (by rw[e5];exact hV.same s6) Om (W.tup ai) e5.symm Om
  .refine⟨_,rfl,_,_,rfl,rfl,_,rfl,ite2 (fun y6=>?_) (fun _=>⟨_,rfl,ah⟩)⟩
   have aD:=yQ y4
   injection aD with aP
   have:=yQ y6
   lia
 exists 4,7,4,ite2 (fun y6=>?_) (fun _=>⟨_,rfl,ah⟩)
 exists 4,4,7,7,.inl ⟨Om,Om⟩,Z1 2,fun I U=>?_
 have X:=Qb U (.tup [.int (ex*(wd-5)),.int 0])
 have b3:upd H2 I (.tup [.int (ex*(wd-5)),.int 0]) I=some (.tup [.int (ex*(wd-5)),.int 0]):=upd_same
 generalize upd H2 I (.tup [.int (ex*(wd-5)),.int 0])=H3 at X b3⊢
 exists 4,7,⟨Dc,Dc⟩,7,by show(0:Int)<2;decide,_,_,rfl,rfl,_,rfl,I,_,rfl,Qn b3,fun R H4 a4 G=>?_
 obtain⟨u,al,aR,aS⟩:∃u:List Int,cutV [V.int (ex*(wd-5)),.int 0] none (some (1+d / 63 % 2))=u.map V.int/\1<=u.length/\u.length<=2:=by
  rcases(show d / 63 % 2=0\/d / 63 % 2=1 by lia)with e | e
  .rw[e];exists [_],rfl,jJ 1,kYb 1
  .rw[e];exists [_,0],rfl,kYb 1,jJ 2
 rw[al]at G
 have s4:=(s2.trans X).trans a4
 exists 4,l,rfl,⟨_,Qg (s4 _ _ hl)⟩,fun D hD=>?_
 let aq:Nat->St->List V->Hp->Prop:=fun i τ L B=>∃v v2:Option V,τ=[v,v2,some (.ref R)]/\B D=some (.lst L)/\RowsV K B (O.length+u.length) L/\L.length=i/\Same H4 B
 refine Yg (n:=k.length) aq ?_ (fun i τ L B hi h=>?_) (fun i τ L B hi h=>?_) (fun τ L B h=>?_) ?_ ?_
 .exact⟨none,none,rfl,upd_same,(fun v hv=>nomatch hv),rfl,Qb hD _⟩
 .obtain⟨v,v2,rfl,hE,_,C,s5⟩:=h
  exists hE,Om
 .obtain⟨v,v2,rfl,hE,_,C,s5⟩:=h
  exists k,k[i],Qg ((s4.trans s5) _ _ hl),gE hi
 .obtain⟨v,v2,rfl,hE,_,C,s5⟩:=h
  exists k,Qg ((s4.trans s5) _ _ hl),jJ _
 .rintro i τ L aM x0 B hi ⟨v,v2,rfl,hE,ap,C,s5⟩ ⟨rfl,e1⟩
  have aa:=s4.trans s5
  obtain⟨t0,r,rfl,⟨pn,r1,r2⟩,rl⟩:=hV.same aa _ (kK (e1 _ (Qg (aa _ _ hl))))
  exists t0,4,r1,rfl,_,4,7,4,Z1 1,fun p5 aL=>?_
  have W:=Qb aL (.tup [.int 0])
  have b6:upd B p5 (.tup [.int 0]) p5=some (.tup [.int 0]):=upd_same
  generalize upd B p5 (.tup [.int 0])=H6 at W b6⊢
  exists 4,R,4,.inr ((s5.trans W).tup G),p5,_,[.int 0],rfl,rfl,Qn b6,by rw[jQ];lia,by rw[jQ];lia,by rw[jQ];show 1*_<=_;lia,fun p6 H7 a7 ax=>?_
  have e7:(qg ((((u.map V.int).length:Nat):Int)).toNat [V.int 0]).flatten=(qg u.length (0:Int)).map V.int:=by rw[jQ];exact Qhh u.length
  rw[e7]at ax
  have ay:=W.trans a7
  exists pn,p6,7,ay.tup r2,ax,(fun z=>by have:=congrArg List.length z;rw[jQ,zZ]at this;have:u.length=0:=this;lia),by rw[jQ,jQ,zZ];lia,fun p7 H8 a8 aA=>?_
  have aJ:=ay.trans a8
  exists 4,Z1 2,fun T Z=>?_
  have a9:=Qb Z (.tup [.ref p7,.int r.2])
  have ak:=aJ.trans a9
  have an:=ak _ _ hE
  rw[<-kY]at aA
  exists an,_,4,upd_same,fun v hv=>?_,by rw[jV,C];rfl,fun b o e=>?_
  .rcases xK.mp hv with z | z
   .obtain⟨t1,r9,e,zz,ll⟩:=ap.same ak v z
    exists t1,r9,e,RowAt.upd an zz,ll
   .refine⟨T,(r.1++qg u.length 0,r.2),kW.mp z,RowAt.upd an ⟨p7,Qn upd_same,a9.tup aA⟩,?_⟩
    show(r.1++qg u.length 0).length=_
    rw[jV,zZ,rl]
  .rw[Qj (Qi e hD)];exact ak _ _ (s5 _ _ e)
 .rintro τ L B ⟨v,v2,rfl,hE,ap,C,s5⟩
  have aa:=s4.trans s5
  exists 4,4,c,R,7,aa.tup hc,s5.tup G,(fun z=>by have:=congrArg List.length z;rw[jQ]at this;have:u.length=0:=this;lia),by rw[jQ,jQ];lia,fun p8 H8 a8 az=>?_
  exists Z1 2,fun T Z=>?_
  have a9:=Qb Z (.tup [.ref D,.ref p8])
  have aj:=a8.trans a9
  rw[<-kY]at az
  have e5:(O++u).length=O.length+u.length:=jV
  exact done T D p8 L (O++u) u.length _ (aa.trans aj) (Qn upd_same) (Qg (aj _ _ hE)) (by rw[e5];exact ap.same aj) Om (a9.tup az) e5.symm Om
end Nb
namespace Nb
open PySem L2
inductive Qkm(K:Fg)(vs:List V)(H:Hp)(Q:VK)(E:XK):Prop|mk(a:Addr)(ns:List Int)(_:vs=[.ref a])(_:SqL K H a (ns.map V.int))(_:ns.length<=63)(_:(∀n∈ns,Bits n))(_:∀H',Q (.bl true) H'):Qkm K vs H Q E
theorem two_of{v x:V}{z:Int}(h:0<=z)(a:z<2):atI [x,y] z=some x\/atI [x,y] z=some y:=by
 rcases(show z=0\/z=1 by lia)with e | e
 .rw[e];exact .inl rfl
 .rw[e];exact .inr rfl
theorem Qty{x y:Addr}{r:Rw}(h:RowAt K H x r)(g:RowAt K H y r):SmD K H (n+2) (.ref x) (.ref y):=by
 obtain⟨p,a,b⟩:=h
 obtain⟨o,k,l⟩:=g
 refine .tup a k rfl fun i v m e c=>?_
 rcases i with _ | _ | i
 .cases e;cases c
  refine .tup b l rfl fun j x y d f=>?_
  rw[d]at f;cases f
  obtain⟨z,_,rfl⟩:=Yf d
  exact .flat rfl
 .cases e;cases c;exact .flat rfl
 .exact nomatch e
theorem Qqa{v':V}(e:(ns.map V.int)[i]?=some v)(a:(ns.map V.int)[i]?=some v'):SmD K H n v v':=by
 rw[e]at a;cases a
 obtain⟨z,_,rfl⟩:=Yf e
 exact .flat rfl
theorem Qkn{l':Addr}(h:HoldsAt K H l hs)(g:HoldsAt K H l' hs):SmD K H (n+2) (.ref l) (.ref l'):=by
 obtain⟨u,a,b⟩:=h
 obtain⟨s,r,o⟩:=g
 refine .lst a r (by rw[b.length,o.length]) fun i x y e q=>?_
 obtain⟨T,c,w,rfl,p,t⟩:=Yw b e (Same.refl _)
 obtain⟨v,A,z,rfl,d,k⟩:=Yw o q (Same.refl _)
 rw[p]at d;cases d
 refine .tup t k rfl fun j x y f m=>?_
 rcases j with _ | _ | j
 .cases f;cases m;exact .flat rfl
 .cases f;cases m;exact .flat rfl
 .exact nomatch f
theorem Km{u u':Addr}(h:SqT K H u xs)(g:SqT K H u' xs)(f:∀x∈xs,Qai x=true):SmD K H (n+1) (.ref u) (.ref u') :=
 .tup h g rfl fun i x y e a=>by rw[e]at a;cases a;exact .flat (f x (kK e))
theorem Qvv{u u':Addr}(h:DLAt K H u ln)(g:DLAt K H u' ln):SmD K H (n+3) (.ref u) (.ref u'):=by
 cases ln with
 |giv k=>exact Km h g fun x d=>by simp at d;rcases d with rfl | rfl<;>rfl
 |low k=>exact Km h g fun x d=>by simp at d;rcases d with rfl | rfl<;>rfl
 |high k=>exact Km h g fun x d=>by simp at d;rcases d with rfl | rfl<;>rfl
 |bet=>exact Km h g fun x d=>by simp at d;rcases d with rfl;rfl
 |no=>exact Km h g fun x d=>by simp at d;rcases d with rfl;rfl
 |shr o b=>exact Km h g fun x d=>by simp at d;rcases d with rfl | rfl | rfl<;>rfl
 |eit o p c=>exact Km h g fun x d=>by simp at d;rcases d with rfl | rfl | rfl | rfl<;>rfl
 |sm ps=>
  obtain⟨l,a,b⟩:=h
  obtain⟨r,m,q⟩:=g
  refine .tup a m rfl fun i x y e f=>?_
  rcases i with _ | _ | i
  .cases e;cases f;exact .flat rfl
  .cases e;cases f;exact Qkn b q
  .exact nomatch e
 |sht o hs=>
  obtain⟨l,a,b⟩:=h
  obtain⟨r,m,q⟩:=g
  refine .tup a m rfl fun i x y e f=>?_
  rcases i with _ | _ | _ | i
  .cases e;cases f;exact .flat rfl
  .cases e;cases f;exact .flat rfl
  .cases e;cases f;exact Qkn b q
  .exact nomatch e
 |lik t=>
  obtain⟨l,a,b⟩:=h
  obtain⟨r,m,q⟩:=g
  refine .tup a m rfl fun i x y e f=>?_
  rcases i with _ | _ | i
  .cases e;cases f;exact .flat rfl
  .cases e;cases f;exact .lst b q rfl fun j x y s v=>Qqa s v
  .exact nomatch e
theorem Qko{g':Addr}{us us':List V}(a:SqL K H g us)(f:SqL K H g' us')(h:LinesAt K H us lns)(h':LinesAt K H us' lns):SmD K H (n+4) (.ref g) (.ref g'):=by
 refine .lst a f (by rw[Paired.length h,Paired.length h']) fun i x y e c=>?_
 obtain⟨l,d,u,rfl,z⟩:=L2.Xw h e
 obtain⟨j,b,m,rfl,k⟩:=L2.Xw h' c
 rw[d]at b;cases b
 exact Qvv z k
theorem Qqb{T t l' c:Addr}(h:SqT K H T [.ref l,.ref c])(g:SqT K H t [.ref l',.ref c])(a:SqL K H l vs)(o:SqL K H l' vs)(r:RowsAre K H vs rs)(f:SqT K H c (cs.map V.int)):SmD K H (n+4) (.ref T) (.ref t):=by
 refine .tup h g rfl fun i x y e k=>?_
 rcases i with _ | _ | i
 .cases e;cases k
  refine .lst a o rfl fun j x y b d=>?_
  rw[b]at d;cases d
  obtain⟨p,q,rfl,_,m⟩:=r.get b
  exact Qty m m
 .cases e;cases k;exact .tup f f rfl fun j x y b d=>Qqa b d
 .exact nomatch e
def PX(H0 H:Hp)(g:Addr)(B:Nat)(x:V):Prop:=(∃n,x=.int n)\/(∃s,x=.str s)\/∃l ys,x=.ref l/\H0 l=none/\l≠g/\H l=some (.lst ys)/\ys.length<=B
def LnM(K:Fg)(H0 H:Hp)(g:Addr)(B:Nat)(v:V):Prop:=∃(u:Addr) (xs:List V),v=.ref u/\SqT K H u xs/\xs.length<=4/\∀x∈xs,PX H0 H g B x
theorem PX.upd{x:V}(h:PX H0 H g B x)(k:H l=some (.lst ys))(hz:zs.length<=B+1):PX H0 (L2.upd H l (.lst zs)) g (B+1) x:=by
 rcases h with h | h | ⟨b,a,c,f,e,i,j⟩
 .exact .inl h
 .exact .inr (.inl h)
 .by_cases d:b=l
  .subst d;exact .inr (.inr ⟨b,zs,c,f,e,upd_same,hz⟩)
  .exact .inr (.inr ⟨b,a,c,f,e,by rw[Qj d];exact i,Om⟩)
theorem PX.mono{x:V}(h:PX H0 H g B x)(j:B<=B'):PX H0 H g B' x:=by
 rcases h with h | h | ⟨e,a,b,d,c,f,i⟩
 .exact .inl h
 .exact .inr (.inl h)
 .exact .inr (.inr ⟨e,a,b,d,c,f,Om⟩)
theorem PX.same{x:V}(h:PX H0 H g B x)(s:Same H H'):PX H0 H' g B x:=by
 rcases h with h | h | ⟨f,a,c,e,d,i,b⟩
 .exact .inl h
 .exact .inr (.inl h)
 .exact .inr (.inr ⟨f,a,c,e,d,s _ _ i,b⟩)
theorem LnM.upd(h:LnM K H0 H g B v)(d:H l=some (.lst ys))(hz:zs.length<=B+1):LnM K H0 (L2.upd H l (.lst zs)) g (B+1) v:=by
 obtain⟨u,f,e,a,b,c⟩:=h;exists u,f,e,Xv d a,b,fun x i=>(c x i).upd d hz
theorem LnM.mono(h:LnM K H0 H g B v)(i:B<=B'):LnM K H0 H g B' v:=by
 obtain⟨u,d,e,a,b,c⟩:=h;exists u,d,e,a,b,fun x f=>(c x f).mono i
theorem LnM.same(h:LnM K H0 H g B v)(s:Same H H'):LnM K H0 H' g B v:=by
 obtain⟨u,d,e,a,b,c⟩:=h;exists u,d,e,s.tup a,b,fun x f=>(c x f).same s
theorem lnM_of{u:Addr}(v:H1 g≠none)(y:n<=20)(q:∀l,H1 l=none->H l=none)(h:DLN K H1 H' u ln)(o:DLok n ln):LnM K H H' g 100 (.ref u):=by
 have ne:∀l,H1 l=none->l≠g:=fun l e z=>v (by rw[<-z];exact e)
 cases ln with
 |sm ps=>
  obtain⟨l,j,d,f,i,r⟩:=h
  have m:=r.length
  rw[jQ]at m
  have:=o.1
  exists u,4,f,by show 2<=4;decide,fun x a=>?_
  simp at a
  rcases a with rfl | rfl
  .exact .inr (.inl ⟨_,rfl⟩)
  .exact .inr (.inr ⟨l,j,rfl,q l d,ne l d,i,Om⟩)
 |sht o' hs=>
  obtain⟨l,j,d,f,i,r⟩:=h
  have m:=r.length
  rw[jQ]at m
  have:=Qac o.2
  exists u,4,f,by show 3<=4;decide,fun x a=>?_
  simp at a
  rcases a with rfl | rfl | rfl
  .exact .inr (.inl ⟨_,rfl⟩)
  .exact .inl ⟨_,rfl⟩
  .exact .inr (.inr ⟨l,j,rfl,q l d,ne l d,i,Om⟩)
 |lik t=>
  obtain⟨l,d,f,i⟩:=h
  obtain⟨w,s,o⟩:=o
  have:=IsTurn.length o
  exists u,4,f,by show 2<=4;decide,fun x a=>?_
  simp at a
  rcases a with rfl | rfl
  .exact .inr (.inl ⟨_,rfl⟩)
  .exact .inr (.inr ⟨l,_,rfl,q l d,ne l d,i,by rw[jQ,Vd];lia⟩)
 |giv k=>exists u,4,h,by show 2<=4;decide,fun x a=>by simp at a;rcases a with rfl | rfl<;>first | exact .inl ⟨_,rfl⟩ | exact .inr (.inl ⟨_,rfl⟩)
 |low k=>exists u,4,h,by show 2<=4;decide,fun x a=>by simp at a;rcases a with rfl | rfl<;>first | exact .inl ⟨_,rfl⟩ | exact .inr (.inl ⟨_,rfl⟩)
 |high k=>exists u,4,h,by show 2<=4;decide,fun x a=>by simp at a;rcases a with rfl | rfl<;>first | exact .inl ⟨_,rfl⟩ | exact .inr (.inl ⟨_,rfl⟩)
 |bet=>exists u,4,h,by show 1<=4;decide,fun x a=>by simp at a;rcases a with rfl;exact .inr (.inl ⟨_,rfl⟩)
 |no=>exists u,4,h,by show 1<=4;decide,fun x a=>by simp at a;rcases a with rfl;exact .inr (.inl ⟨_,rfl⟩)
 |shr o' b=>exists u,4,h,by show 3<=4;decide,fun x a=>by simp at a;rcases a with rfl | rfl | rfl<;>first | exact .inl ⟨_,rfl⟩ | exact .inr (.inl ⟨_,rfl⟩)
 |eit o' p c=>exists u,4,h,by show 4<=4;decide,fun x a=>by simp at a;rcases a with rfl | rfl | rfl | rfl<;>first | exact .inl ⟨_,rfl⟩ | exact .inr (.inl ⟨_,rfl⟩)
abbrev sAsk:Stmt:=top 66
theorem crm_at{S:SK}{told:List Rw}(h:CrM m S pl told){p:Option Rw×Bool}(e:S[i]?=some p):∃po,pl[i]?=some po/\(p.2=true->∃r j,p.1=some r/\po=some j/\told[j]?=some (Zc m r))/\(p.2=false->po=none):=by
 obtain⟨o,b⟩:=p
 cases b with
 |true=>
  obtain⟨r,j,d,c,a⟩:=h.yes i o e
  exists _,c,fun _=>⟨r,j,d,rfl,a⟩,fun z=>nomatch z
 |false=>exists _,h.no i o e,(fun z=>nomatch z),fun _=>rfl
theorem prd_at{α β:Type}{R:α->β->Prop}{xs:List α}{ys:List β}(h:Paired R xs ys){y:β}(e:ys[i]?=some y):∃x,xs[i]?=some x/\R x y:=by
 have d:=Paired.length h
 have c:=(jW.mp e).1
 have b:xs[i]?=some (xs[i]'Om):=gE Om
 obtain⟨f,a,z⟩:=L2.Xw h b
 rw[e]at a
 cases a
 exists _,b,z
theorem bind6{F:List Value->Prop}(h:∀a b c d e g,F [a,b,c,d,e,g]):∀us:List Value,us.length=6->F us:=fun us f=>by
 match us,f with
 |[a,b,c,d,e,g],_=>exact h a b c d e g
inductive spAsk(K:Fg)(vs:List V)(H:Hp)(Q:VK)(E:XK):Prop|mk(pr pp ot du:Addr)(us ws:List V)(lns:List DL)(rs:List Rw)(cs:List Int)(best:Option Int)(rs2:List Rw)(cs2:List Int)(best2:Option Int)(m:Nat)(z:Rw)(_:vs=[.ref pr,Xm best,.ref pp,.ref ot,Xm best2,.ref du])(_:ProbAt K H pr rs cs)(_:SqL K H pp us)(_:LinesAt K H us lns)(_:(∀ln∈lns,DLok cs.length ln))(_:ProbAt K H ot rs2 cs2)(_:Two rs cs rs2 cs2 m)(_:lns.length<=60)(_:SqL K H du ws)(_:Qlx K H m z ws (Jd rs cs best rs2 cs2 best2 m z lns))(_:∀H':Hp,Same H H'->Q (.bl true) H'):spAsk K vs H Q E
theorem scAsk:FnScope ["_law_problem_here","_law_best","_law_paper_here","_law_other_here","_law_other_best","_law_due","_law_handed","_law_found","_law_heard","_law_k","_law_place","_law_line","_law_part"] ["_law_problem_here","_law_best","_law_paper_here","_law_other_here","_law_other_best","_law_due"] (Qf sAsk):=Sc
theorem okAsk(F:Fn K mg "_law_asked" sAsk)(M:Mg mg)(C:qC 1 "_law_copy" ["_law_problem_here"] (Qtu K))(O:qC 9 "carried" ["problem","best","paper","other","other_best"] (Qtw K))(ae:qC 4 "_law_told" ["_law_problem_here","_law_best","_law_paper_here"] (Qtt K))(av:qC 1 "_law_is" ["_law_thing","_law_most_here"] (Qdt)):qC 10 "_law_asked" ["_law_problem_here","_law_best","_law_paper_here","_law_other_here","_law_other_best","_law_due"] (spAsk K):=by
 refine Xf F scAsk (a:=fun f bi A ba s H vs Q E hr h=>?_)
 obtain⟨pr,pp,ot,du,us,ws,aa,rs,cs,g,ad,Z,d,m,z,rfl,a0,aS,ao,bg,aE,tw,aY,U,ai,q⟩:=h
 have ay:=Z6 6 hr.un
 refine⟨_,(Qd (Z4 6 scAsk.nd (Xo (Qa (Xc C (hr.mono Dc) (Qa (pv 0) Qc)) (Qa (Qz Zk rfl M.list_ Yu (Qa (pv 2) Qc)) (Qa (Xc C (hr.mono Dc) (Qa (pv 3) Qc)) Qc)))))
  (Qd (Z4 7 scAsk.nd (Xc O (hr.mono Dc) (Qa (Qo ix_list (pv 6) Qe) (Qa (pv 1) (Qa (Qo ix_list (pv 6) Qe) (Qa (Qo ix_list (pv 6) Qe) (Qa (pv 4) Qc)))))))
  (Qd (Xg (PW.pt (Yx (Xr (Xl (Qk Xn rfl M.isinstance Qx (Qa (pv 7) (Qa (Jh M.tuple_ Xp) Qc))))) (Yx (Qr Qah (qL (pv 7)) Qe (Qs _)) (Yr (Qr (Qpo (n:=6) ay) (pv 6) (Xo (Qa (pv 0) (Qa (pv 2) (Qa (pv 3) Qc)))) (Qs _)))))) (Qh (Qp Qbp)) Qq)
  (Qd (Z4 8 scAsk.nd (Xc ae (hr.mono Dc) (Qa (pv 3) (Qa (pv 4) (Qa (Qo Qm (pv 7) Qe) Qc)))))
  (Qd (Xg (PW.pt (Yx (Qr Qax (pv 8) Xh (Qs _)) (Yx (Xr (Xl (Qk Xn rfl M.isinstance Qx (Qa (Qo Qm (pv 7) Qe) (Qa (Jh M.list_ Yu) Qc))))) (Yr (Qr Qah (qL (Qo Qm (pv 7) Qe)) (qL (pv 5)) (Qs _)))))) (Qh (Qp Qbp)) Qq)
  (Qd (Yo PassesOwn.never rfl (Yt rfl M.range_ (Qa (qL (pv 5)) Qc)) (Z3 9 scAsk.nd) (Qd (Z4 10 scAsk.nd (Qo ix_list (Qo Qm (pv 7) Qe) (pv 9)))
  (Qd (Xg (Qr Qah (Xz Qax (pv 10) Xh (Qs _)) (Xz Qax (Qo ix_list (pv 5) (pv 9)) Xh (Qs _)) (Qs _)) (Qh (Qp Qbp)) Qq)
  (Qh (Xg (PW.pt (Ko (Qr Qdx (pv 10) Xh (Qs _)) (Ju (PW.pt (Yx (Xr (Xl (Xc av (hr.mono Dc) (Qa (pv 10) (Qa (qL (pv 8)) Qc))))) (Yr (Qr (Qpo (n:=6) ay) (Qo ix_list (pv 8) (pv 10)) (Qo ix_list (pv 5) (pv 9)) (Qs _)))))))) (Qh (Qp Qbp)) Qq)))))
  (Qd (Yo PassesOwn.never rfl (Xq (Qo Qm (pv 7) Qe)) (Z3 11 scAsk.nd) (Qh (Yo PassesOwn.never rfl (Qaw (pv 11)) (Z3 12 scAsk.nd) (Qh (Xg (Xl (Qk Xn rfl M.isinstance Qx (Qa (pv 12) (Qa (Jh M.list_ Yu) Qc)))) (Qh (Yn (Va Y1 Y2 Y3 Xx (pv 12) (Qa Qe Qc)))) Qq)))))
  (Qh (Qp Qbp))))))))),?_⟩
 exists"z"
 obtain⟨lP,cP,vP,ht,aR,aP,aw⟩:=id a0
 obtain⟨lO,cO,vO,aA,aJ,aN,ax⟩:=id aE
 exists 4,pr,lP,cP,vP,rfl,ht,aR,⟨_,aw⟩,fun T1 g1 H1 a1 _ _ bd be=>?_
 exists 4,pp,4,.inl (a1.seq aS),fun g2 bb=>?_
 have a2:=Qb bb (.lst us)
 have b2:upd H1 g2 (.lst us) g2=some (.lst us):=upd_same
 generalize upd H1 g2 (.lst us)=H2 at a2 b2⊢
 have s2:=a1.trans a2
 exists 4,ot,lO,cO,vO,rfl,s2.tup aA,s2.seq aJ,⟨_,s2.tup ax⟩,fun T3 g3 H3 a3 _ _ a8 aZ=>?_
 exists Z1 3,fun hb bf=>?_
 have a4:=Qb bf (.lst [.ref T1,.ref g2,.ref T3])
 have b4:upd H3 hb (.lst [.ref T1,.ref g2,.ref T3]) hb=some (.lst [.ref T1,.ref g2,.ref T3]):=upd_same
 generalize upd H3 hb (.lst [.ref T1,.ref g2,.ref T3])=H4 at a4 b4⊢
 have ag:=a3.trans a4
 have s4:=s2.trans ag
 have al:=(a2.trans ag).tup bd
 have aj:=(a2.trans ag) _ _ be
 have ak:=ag _ _ b2
 have am:=a4.tup a8
 have an:=a4 _ _ aZ
 have aT:ProbAt K H4 T1 rs cs:=⟨g1,cP,vP,al,Qg aj,aP.imp fun _ _ z=>z.same s4,s4.tup aw⟩
 have aW:ProbAt K H4 T3 ad Z:=⟨g3,cO,vO,am,Qg an,aN.imp fun _ _ z=>z.same s4,s4.tup ax⟩
 exists 4,hb,8,Qg b4,at30,4,4,hb,8,Qg b4,at31,4,hb,8,Qg b4,at32,4,T1,g2,T3,us,aa,rs,cs,g,ad,Z,d,m,z,rfl,aT,Qg ak,LinesAt.same ao s4,bg,aW,tw,aY,fun u L Pl N aL aQ pl HN H5 a5 hN bc hu aB au aU aq bh aM=>?_
 have s5:=s4.trans a5
 have ll:=aq.length
 exists 4,_,"tuple",true,rfl,.tuple,.inl ⟨⟨_,hu⟩,rfl⟩,4,iteF ?_
 exists 4,u,4,.inr hu,rfl,4,iteF ?_
 exists 4,4,4,4,Z1 3,fun X hX=>?_
 have a6:=Qb hX (.lst [.ref pr,.ref pp,.ref ot])
 have b6:upd H5 X (.lst [.ref pr,.ref pp,.ref ot]) X=some (.lst [.ref pr,.ref pp,.ref ot]):=upd_same
 generalize upd H5 X (.lst [.ref pr,.ref pp,.ref ot])=H6 at a6 b6⊢
 have R:=a5.trans a6
 have T:=s4.trans R
 exists hb,X,rfl,rfl,.lst (n:=5) (Qg (R _ _ b4)) (Qg b6) rfl (fun i x y e e'=>?_),4,iteF ?_
 .rcases i with _ | _ | _ | i
  .cases e;cases e'
   exact Qqb (n:=1) (R.tup al) (T.tup ht) (Qg (R _ _ aj)) (T.seq aR) (aP.imp fun _ _ z=>z.same T) (T.tup aw)
  .cases e;cases e'
   exact Qko (n:=1) (Qg (R _ _ ak)) (T.seq aS) (LinesAt.same ao T) (LinesAt.same ao T)
  .cases e;cases e'
   exact Qqb (n:=1) (R.tup am) (T.tup aA) (Qg (R _ _ an)) (T.seq aJ) (aN.imp fun _ _ z=>z.same T) (T.tup ax)
  .exact nomatch e
 exists 4,4,4,u,8,a6.tup hu,at0,ot,L,ad,aQ,Z,d,N,aL,rfl,ProbAt.same T aE,tw.l2,Qg (a6 _ _ aB),LinesAt.same (Paired.mapP au fun _ _ ⟨u,e,w⟩=>⟨u,e,w.dlat⟩) a6,aq,tw.n2,tw.m2,Om,fun gH wH H7 a7 _ hH aD=>?_
 have ac:=a6.trans a7
 have s7:=T.trans a7
 have ah:=ac.tup hu
 have ab:=ac _ _ aU
 have lD:=Paired.length ai
 have lS:(Jd rs cs g ad Z d m z aa).length=aa.length:=Vl aa
 have lp:=aM.len
 exists 4,rfl,4,ite2 (fun y=>Y21 (yQ y) (fun z=>nomatch z)) (fun _=>?_)
 exists 4,u,8,ah,at1,_,"list",true,rfl,.list,.inr ⟨⟨_,Qg ab⟩,rfl⟩,4,iteF ?_
 exists 4,u,8,ah,at1,Pl,4,.inl (Qg ab),4,du,4,.inl (s7.seq U),rfl,4,ite2 (fun y=>?_) (fun _=>?_)
 .exfalso
  rw[jQ,lp,<-lD]at y
  simp at y
 have lR:=aD.length
 let aG:Nat->St->Hp->Prop:=fun i S H8=>∃v9 Y:Option V,H8=H7/\S=[some (.ref pr),some (Xm g),some (.ref pp),some (.ref ot),some (Xm d),some (.ref du),some (.ref hb),some (.ref u),some (.ref gH),v9,Y,none,none]
 exists 4,du,4,.inl (s7.seq U),4,Om,Om,Kb (lo:=0) (n:=Int.toNat (ws.length:Int)) aG ⟨none,none,rfl,rfl⟩ ?_ ?_
 .rintro i S H8 hi ⟨v9,Y,rfl,rfl⟩
  rw[jQc]at hi
  obtain⟨p,ep,hp⟩:=L2.Xw ai (gE hi)
  obtain⟨po,eo,az⟩:=crm_at aM ep
  have ei:(0:Int)+((i:Nat):Int)=((i:Nat):Int):=kJb _
  rw[ei]
  have aV:atI (pl.map plV) ((i:Nat):Int)=some (plV po):=Zx (by rw[jZ,eo];rfl)
  have eW:atI ws ((i:Nat):Int)=some ws[i]:=Zx (gE hi)
  exists 4,u,8,ah,at1,4,Pl,8,Qg ab,aV,?_
  obtain⟨o,b⟩:=p
  cases b with
  |false=>
   rw[az.2 rfl]
   have e9:ws[i]=.non:=hp
   rw[e9]at eW
   exists 4,rfl,4,4,du,8,s7.seq U,eW,rfl,rfl,4,iteF ?_
   exists 4,rfl,4,iteF ⟨_,_,rfl,rfl⟩
  |true=>
   obtain⟨r,j,e1,e2,e3⟩:=az.1 rfl
   obtain⟨tr,e9,aI⟩:=(show ∃t,ws[i]=.ref t/\RowAt K H t (Zc m (o.getD z))from hp)
   rw[show o=some r from e1]at aI
   rw[e9]at eW
   rw[e2]
   have bk:=(jW.mp e3).1
   obtain⟨tv,ev,t5,rfl,aX⟩:=prd_at aD e3
   exists 4,rfl,4,4,du,8,s7.seq U,eW,rfl,rfl,4,iteF ?_
   exists 4,rfl,4,iteT ?_
   exists 4,4,gH,4,.inl (Qg hH),((j:Nat):Int),4,fun c hc=>?_
   have c1:c=true:=hc.mpr ⟨Om,Om⟩
   subst c1
   exists 4,iteF ?_
   exists 4,4,gH,8,Qg hH,Zx ev,4,4,du,8,s7.seq U,eW,t5,tr,rfl,rfl,Qty (n:=4) aX (aI.same s7),4,iteF ⟨_,_,rfl,rfl⟩
 .rintro S H8 ⟨v9,Y,rfl,rfl⟩
  have aH:∀v∈N,LnM K H4 H8 L 100 v:=fun v hv=>by
   obtain⟨j,hj,ej⟩:=jJb.mp hv
   obtain⟨ln,el,u9,e,w9⟩:=L2.Xw au (gE hj)
   rw[<-ej,e]
   exact(lnM_of bc tw.n2 hN w9 (aq.at el).1).same ac
  have aK:=ac _ _ aB
  have bj:=Paired.length au
  have S8:Same H4 H8:=a5.trans ac
  let aC:Nat->St->Hp->Prop:=fun j S H9=>∃ap J:Option V,S=[some (.ref pr),some (Xm g),some (.ref pp),some (.ref ot),some (Xm d),some (.ref du),some (.ref hb),some (.ref u),some (.ref gH),v9,Y,ap,J]/\H9 L=some (.lst N)/\(∀v∈N,LnM K H4 H9 L (100+4*j) v)/\Same H4 H9
  exists 4,u,8,ah,at0,L,rfl,⟨_,Qg aK⟩,Zd (K:=K) (a:=L) (xs:=N) aC ⟨none,none,rfl,aK,aH,S8⟩ (fun j S H9 _ h=>?_) ?_ ?_
  .obtain⟨_,_,rfl,h9,_,_⟩:=h
   exact Qg h9
  .rintro j x S H9 ex ⟨ap,J,rfl,h9,ar,k9⟩
   have hj:=(jW.mp ex).1
   obtain⟨u9,xs,rfl,aF,h4,a9⟩:=ar x (kK ex)
   exists 4,u9,rfl,⟨_,aF⟩,Qmg (K:=K) (a:=u9) (xs:=xs) (fun k S D=>∃J:Option V,S=[some (.ref pr),some (Xm g),some (.ref pp),some (.ref ot),some (Xm d),some (.ref du),some (.ref hb),some (.ref u),some (.ref gH),v9,Y,some (.ref u9),J]/\D L=some (.lst N)/\(∀v∈N,LnM K H4 D L (100+4*j+k) v)/\SqT K D u9 xs/\(∀x∈xs,PX H4 D L (100+4*j+k) x)/\Same H4 D) ⟨J,rfl,h9,ar,aF,a9,k9⟩ (fun k S D _ h=>?_) ?_ ?_
   .obtain⟨_,rfl,_,_,B,_,_⟩:=h
    exact B
   .rintro k x S D aO ⟨J,rfl,W,G,B,I,af⟩
    have hk:=(jW.mp aO).1
    rcases I x (kK aO)with⟨n,rfl⟩ | ⟨z,rfl⟩ | ⟨l,ys,rfl,l0,lg,hl,hy⟩
    .exact⟨_,rfl,_,"list",false,rfl,.list,rfl,_,rfl,iteF ⟨_,rfl,W,fun v hv=>(G v hv).mono Om,B,fun x hx=>(I x hx).mono Om,af⟩⟩
    .exact⟨_,rfl,_,"list",false,rfl,.list,rfl,_,rfl,iteF ⟨_,rfl,W,fun v hv=>(G v hv).mono Om,B,fun x hx=>(I x hx).mono Om,af⟩⟩
    .refine⟨_,rfl,_,"list",true,rfl,.list,.inr ⟨⟨_,Qg hl⟩,rfl⟩,_,rfl,iteT ?_⟩
     exists 4,.inl ⟨rfl,_,Qg hl⟩,l,7,hl,Om,4,by rw[Qj lg.symm];exact W,fun v hv=>(G v hv).upd hl (by rw[jV];exact kZf hy),Xv hl B,fun x hx=>(I x hx).upd hl (by rw[jV];exact kZf hy),fun b o e=>?_
     rw[Qj (Qi e l0)];exact af _ _ e
   .rintro S D ⟨J,rfl,W,G,B,I,af⟩
    exists _,4,W,fun v hv=>(G v hv).mono Om,af
  .rintro S H9 ⟨ap,J,rfl,h9,ar,k9⟩
   exact q H9 (s4.trans k9)
abbrev Qkp:Stmt:=top 61
theorem scPaper:FnScope ["_law_problem_here","_law_best","_law_cells","_law_paper_here","_law_heard","_law_cell","_law_line","_law_row_here"] ["_law_problem_here","_law_best","_law_cells"] (Qf Qkp):=Sc
theorem Qvw(F:Fn K mg "_law_paper" Qkp)(M:Mg mg)(D:qC 2 "_law_drawn" ["_law_problem_here","_law_many_seen","_law_cell"] (Qph K))(U:qC 3 "_law_row" ["_law_problem_here","_law_best","_law_heard","_law_line"] (Qfk K)):qC 4 "_law_paper" ["_law_problem_here","_law_best","_law_cells"] (Qpu K):=by
 refine Xf F scPaper (a:=fun f au A ao s H vs Q E hr h=>?_)
 obtain⟨t,c,J,N,d,Z,rfl,hP,af,hc,aw,hn,hm,q⟩:=h
 refine⟨_,(Qd (Z4 3 scPaper.nd (Xo Qc))
  (Qd (Z4 4 scPaper.nd (Xo Qc))
  (Qd (Yo PassesOwn.never rfl (Xq (pv 2)) (Z3 5 scPaper.nd) (Qd (Z4 6 scPaper.nd (Xc D (hr.mono Dc) (Qa (pv 0) (Qa (qL (pv 4)) (Qa (pv 5) Qc)))))
  (Qd (Z4 7 scPaper.nd (Xc U (hr.mono Dc) (Qa (pv 0) (Qa (pv 1) (Qa (pv 4) (Qa (pv 6) Qc))))))
  (Qh (Xg (Qr Qdx (pv 7) Xh (Qs _)) (Qd (Yn (Va Y1 Y2 Y3 Xx (pv 3) (Qa (pv 6) Qc)))
  (Qh (Yn (Va Y1 Y2 Y3 Xx (pv 4) (Qa (pv 7) Qc))))) Qq)))))
  (Qh (Qp (pv 3)))))),?_⟩
 refine Jj ?_;intros
 exists"z"
 exists Z1 0,fun g hg=>?_
 have s1:=Qb hg (.lst [])
 have h1:upd H g (.lst []) g=some (.lst []):=upd_same
 generalize upd H g (.lst [])=H1 at s1 h1⊢
 exists Z1 0,fun C X=>?_
 have s2:=Qb X (.lst [])
 have h2:upd H1 C (.lst []) C=some (.lst []):=upd_same
 have g2:=s2 _ _ h1
 have aq:H C=none:=by
  cases e5:H C with
  |none=>rfl
  |some o=>rw[s1 _ _ e5]at X;cases X
 have ae:g≠C:=fun e=>by rw[e,X]at h1;cases h1
 generalize upd H1 C (.lst [])=H2 at s2 h2 g2⊢
 have ag:=s1.trans s2
 exists 4,c,rfl,⟨_,ag.seq hc⟩,Zd (K:=K) (a:=c) (xs:=Z.map V.int) (fun i σ L=>∃(p S:List V) (v5 v6 v7:Option V),σ=[some (.ref t),some (Xm d),some (.ref c),some (.ref g),some (.ref C),v5,v6,v7]/\L g=some (.lst p)/\L C=some (.lst S)/\LinesN K H2 L p (papF J N d (Z.take i)).1/\RowsAre K L S (papF J N d (Z.take i)).2/\Right J N d (papF J N d (Z.take i)).1 (papF J N d (Z.take i)).2/\(papF J N d (Z.take i)).1.length<=i/\(∀l,L l=none->H2 l=none)/\Same H L) ⟨[],[],none,none,none,rfl,g2,h2,.nil,.nil,.nil,jJ _,fun _ h=>h,ag⟩ (fun i σ L _ h=>?_) ?_ ?_
 .obtain⟨_,_,_,_,_,rfl,_,_,_,_,_,_,_,Y⟩:=h
  exact Y.seq hc
 .rintro i x σ L e1 ⟨p,S,v5,v6,v7,rfl,W,R,n,k,m,G,v,Y⟩
  have hi:=(jW.mp e1).1
  rw[jQ]at hi
  obtain⟨z,ez,rfl⟩:=Yf e1
  have al:=Qpt J N d ez
  rw[al]
  clear al
  have O:=m.len af
  have ai:=m.length
  have ab:=Paired.length k
  unfold Wh
  generalize papF J N d (Z.take i)=PF at n k m G O ai ab⊢
  obtain⟨aa,hd⟩:=PF
  dsimp only at n k m G O ai ab⊢
  rw[<-ab]
  have lw:=Paired.length k
  have lu:=Paired.length n
  exists 4,4,C,4,.inl (Qg R),4,t,J,N,_,z,rfl,ProbAt.same Y hP,hn,hm,Om,fun u H4 s4 hD ac=>?_
  generalize Qcx N.length J.length (S.length:Int) z=ln at hD ac⊢
  have am:=Y.trans s4
  exists 4,4,4,4,t,C,u,J,hd,N,d,S,ln,rfl,ProbAt.same am hP,af,Qg (s4 _ _ R),k.imp fun _ _ w=>w.same s4,Om,O,hD.dlat,ac,hn,hm,fun eo T s5=>?_,fun r' eo t' T s5 ap=>?_
  .have j:=s4.trans s5
   exists 4,rfl,4,ite2 (fun y=>Y21 y Dc) (fun _=>?_)
   rw[eo]
   exact⟨p,S,_,_,_,rfl,j _ _ W,j _ _ R,Paired.mapP n fun _ _ ⟨u,e,w⟩=>⟨u,e,w.same j⟩,k.imp fun _ _ w=>w.same j,m,by show aa.length<=i+1;lia,fun l e=>v l (by
    cases e5:L l with
    |none=>rfl
    |some o=>rw[j _ _ e5]at e;cases e),Y.trans j⟩
  .have j:=s4.trans s5
   exists 4,rfl,4,ite2 (fun _=>?_) (fun y=>Y21 (show(!decide (V.ref t'=V.non))=true from rfl) y)
   have B:=j _ _ W
   have an:=j _ _ R
   exists 4,.inl ⟨rfl,_,Qg B⟩,4,g,7,B,Om,?_
   have I:upd T g (.lst (p++[.ref u])) C=some (.lst S):=by rw[Qj ae.symm];exact an
   have aj:upd T g (.lst (p++[.ref u])) g=some (.lst (p++[.ref u])):=upd_same
   have ah:LinesN K H2 (upd T g (.lst (p++[.ref u]))) (p++[.ref u]) (aa++[ln]):=Paired.snoc (Paired.mapP n fun _ _ ⟨u,e,w⟩=>⟨u,e,(w.same j).updL B (by rw[g2];intro z;cases z)⟩) ⟨u,rfl,((hD.same s5).older v).updL B (by rw[g2];intro z;cases z)⟩
   have ad:RowsAre K (upd T g (.lst (p++[.ref u]))) S hd:=k.imp fun _ _ w=>(w.same j).upd B
   have ak:RowAt K (upd T g (.lst (p++[.ref u]))) t' r':=RowAt.upd B ap
   have s6:Same H (upd T g (.lst (p++[.ref u]))):=fun b o e=>by rw[Qj (Qi e hg)];exact(Y.trans j) _ _ e
   have d6:∀l,upd T g (.lst (p++[.ref u])) l=none->H2 l=none:=fun l e=>by
    by_cases el:l=g
    .rw[el,upd_same]at e;cases e
    .rw[Qj el]at e
     exact v l (by
      cases e5:L l with
      |none=>rfl
      |some o=>rw[j _ _ e5]at e;cases e)
   generalize upd T g (.lst (p++[.ref u]))=H6 at I aj ah ad ak s6 d6⊢
   exists 4,.inl ⟨rfl,_,Qg I⟩,4,C,7,I,Om,?_
   rw[eo]
   exists p++[.ref u],S++[.ref t'],_,_,4,by rw[Qj ae];exact aj,upd_same,ah.imp fun _ _ w=>w.updL I (by rw[h2];intro z;cases z),RowsAre.snoc (ad.imp fun _ _ w=>w.upd I) (RowAt.upd I ak),Right.snoc m ac eo,by show(aa++[ln]).length<=i+1;rw[jV];exact kZf G,fun l e=>?_,fun b o e=>?_
   .by_cases el:l=C
    .rw[el,upd_same]at e;cases e
    .rw[Qj el]at e;exact d6 l e
   .rw[Qj (Qi e aq)];exact s6 _ _ e
 .rintro σ L ⟨p,S,v5,v6,v7,rfl,W,R,n,k,m,G,v,Y⟩
  rw[jQ]at n k m G
  rw[wJ]at n k m G
  exists 4,q g p L Y hg W (Paired.mapP n fun _ _ ⟨u,e,w⟩=>⟨u,e,w.dlat⟩) m Om
abbrev sLaw:Stmt:=top 67
theorem ProbT.same{t:Addr}(h:ProbT K H t rs cs)(s:Same H H'):ProbT K H' t rs cs:=by obtain⟨l,c,a,d,b,e,f⟩:=h;exists l,c,a,s.tup d,s _ _ b,e.imp fun _ _ z=>z.same s,s.tup f
theorem cut43(ns:List Int):∃zs:List Int,cutV (ns.map V.int) (some 20) (some 63)=zs.map V.int/\zs.length<=43:=by
 unfold cutV
 rw[jQ]
 exists (ns.drop (HT.sIx ns.length 0 (some 20))).take (HT.sIx ns.length ns.length (some 63)-HT.sIx ns.length 0 (some 20)),by rw[kZa,kZb],?_
 rw[yY,wY]
 have b:HT.sIx ns.length 0 (some ((20:Nat):Int))=min 20 ns.length:=HT.sIx_nat _ _ _
 have a:HT.sIx ns.length ns.length (some ((63:Nat):Int))=min 63 ns.length:=HT.sIx_nat _ _ _
 rw[show((20:Nat):Int)=20 from rfl]at b
 rw[show((63:Nat):Int)=63 from rfl]at a
 lia
theorem Qvx(us:List V)(c:Nat)(h:c<=us.length):cutV us none (some (c:Int))=us.take c:=by
 unfold cutV
 rw[HT.sIx_none,HT.sIx_nat,List.drop_zero,jXd h,Nat.sub_zero]
theorem Qst(us:List V)(c:Nat)(h:c<=us.length):cutV us (some (c:Int)) none=us.drop c:=by
 unfold cutV
 rw[HT.sIx_none,HT.sIx_nat,jXd h]
 exact zX (by rw[wY];exact jJ _)
theorem Qfo{α β:Type}{R:α->β->Prop}:∀{xs:List α} {ys:List β} {xs':List α} {ys':List β},Paired R xs ys->Paired R xs' ys'->Paired R (xs++xs') (ys++ys')
 |_,_,_,_,.nil,h=>h
 |_,_,_,_,.cons z r,h=>.cons z (Qfo r h)
theorem Qkq{α β:Type}{R:α->β->Prop}:∀{xs:List α} {ys:List β},Paired R xs ys->∀m,Paired R (xs.take m) (ys.take m)
 |_,_,.nil,m=>by rw[List.take_nil,List.take_nil];exact .nil
 |_,_,.cons z r,0=>.nil
 |_,_,.cons z r,m+1=>.cons z (Qkq r m)
theorem Qkr{α β:Type}{R:α->β->Prop}:∀{xs:List α} {ys:List β},Paired R xs ys->∀m,Paired R (xs.drop m) (ys.drop m)
 |_,_,.nil,m=>by rw[List.drop_nil,List.drop_nil];exact .nil
 |_,_,.cons z r,0=>.cons z r
 |_,_,.cons z r,m+1=>Qkr r m
def Qqc(n:Nat)(wl:DL)(lns:List DL):List DL:=lns.take n++[wl]++(lns.drop n).map (DL.ren (mvF n))++[.sm [((n:Int),1)]]
theorem Qqd(n:Nat)(b:DL)(a:List DL):(Qqc n b a).length=a.length+2:=by
 unfold Qqc
 rw[jV,jV,jV,jQ,yY,wY]
 show min n a.length+1+(a.length-n)+1=_
 lia
theorem Qsu(h:Right rs cs best lns hd)(m:lns.length<=43)(u:n<=43){wl:DL}(g:DLok cs.length wl):∀ln∈Qqc n wl lns,DLok cs.length ln:=fun ln hl=>by
 have a:=h.length
 rcases xK.mp hl with hl | hl
 .rcases xK.mp hl with hl | hl
  .rcases xK.mp hl with hl | hl
   .exact h.ok ln (kYc hl)
   .rw[kW.mp hl];exact g
  .obtain⟨q,l,rfl⟩:=zJ.mp hl
   obtain⟨i,f,e⟩:=jJb.mp (kKe l)
   obtain⟨o,r,s,j⟩:=h.at (jW.mpr ⟨f,e⟩)
   refine Qpj o fun k b=>?_
   obtain⟨t,c⟩:=Vt j k b
   rw[yY]at c
   unfold mvF
   constructor<;>split<;>lia
 .rw[kW.mp hl]
  exists by show 1<=10;decide,fun p d=>by rw[kW.mp d];exact⟨⟨by show(0:Int)<=(n:Int);lia,by show(n:Int)<1000000;lia⟩,by show(0:Int)<=1;decide,by show(1:Int)<=3;decide⟩
theorem scLaw:FnScope ["_law_script","_law_problem_here","_law_best","_law_other_here","_law_other_best","_law_paper_here","_law_cell","_law_wrong","_law_at","_law_spoiled","_law_old_best","_law_lines","_law_due"] ["_law_script"] (Qf sLaw):=Sc
theorem okLaw(F:Fun K "law" "law" sLaw f fd)(M:Mg mg)(O:qC 3 "_law_problem" ["_law_script","_law_most_here","_law_rows_most"] (Qdc K))(d:qC 1 "_law_cell_at" ["_law_script","_law_k"] (Qdb K))(ab:qC 3 "_law_other" ["_law_problem_here","_law_script"] (spOth K))(I:qC 4 "_law_paper" ["_law_problem_here","_law_best","_law_cells"] (Qpu K))(Z:qC 1 "_law_moved" ["_law_line","_law_at"] (spMv K))(ae:qC 4 "_law_kept" ["_law_problem_here","_law_best","_law_paper_here","_law_other_here","_law_other_best"] (spKp K))(ac:qC 10 "_law_asked" ["_law_problem_here","_law_best","_law_paper_here","_law_other_here","_law_other_best","_law_due"] (spAsk K)):FnOk P w K mg base CX0 11 f fd ["_law_script"] (Qkm K):=by
 refine F.ok scLaw (a:=fun co A b0 s H vs Q E Y h=>?_)
 obtain⟨a,ns,rfl,hS,cu,hB,q⟩:=h
 have bI:=Z6 6 Y.un
 refine⟨_,(Qd (Z4 1 scLaw.nd (Xc O (Y.mono Dc) (Qa (pv 0) (Qa Qe (Qa Qe Qc)))))
  (Qd (Z4 2 scLaw.nd (Qo ix_list (Xo (Qa Xh (Qa (Qu Ys (Qu Yl (Qu Zq (Xc d (Y.mono Dc) (Qa (pv 0) (Qa Qe Qc))) Qe) Qe) Qe) Qc))) (Qu Yl (Xc d (Y.mono Dc) (Qa (pv 0) (Qa Qe Qc))) Qe)))
  (Qd (Z4 3 scLaw.nd (Xc ab (Y.mono Dc) (Qa (pv 1) (Qa (pv 0) Qc))))
  (Qd (Z4 4 scLaw.nd (Qo ix_list (Xo (Qa (pv 2) (Qa Xh (Qa (Qu Ys (Qu Yl (Qu Zq (Xc d (Y.mono Dc) (Qa (pv 0) (Qa Qe Qc))) Qe) Qe) Qe) Qc)))) (Qu Yl (Xc d (Y.mono Dc) (Qa (pv 0) (Qa Qe Qc))) Qe)))
  (Qd (Z4 5 scLaw.nd (Xc I (Y.mono Dc) (Qa (pv 1) (Qa (pv 2) (Qa (Yi Kg (pv 0) (Yj Qe) (Yj Qe)) Qc)))))
  (Qd (Z4 6 scLaw.nd (Xc d (Y.mono Dc) (Qa (pv 0) (Qa Qe Qc))))
  (Qd (Z4 7 scLaw.nd (Qo ix_list (Xo (Qa (Qy (Qa Xj (Qa (qL (Qo Qm (pv 1) Qe)) Qc))) (Qa (Qy (Qa Xj (Qa (Xo Qc) Qc))) (Qa (Qy (Qa Xj Qc)) Qc)))) (Qu Yl (pv 6) Qe)))
  (Qd (Z4 8 scLaw.nd (Qu Yl (Qu Zq (pv 6) Qe) (Qu Yp (qL (pv 5)) Qe)))
  (Qd (Z4 9 scLaw.nd (Qu Qgc (Qu Qgc (Yi Kg (pv 5) Zv (Yj (pv 8))) (Xo (Qa (pv 7) Qc))) (Zn ["_law_line","_law_at"] [none,some 8] rfl (Xq (Yi Kg (pv 5) (Yj (pv 8)) Zv)) (fun _ _ _=>(Z3 0 (show(["_law_line","_law_at"]:List Str).Nodup by decide +kernel))) (fun _ _ _=>Yc) (fun _ _ _=>(Xc Z (Y.mono Dc) (Qa (pv 0) (Qa (pv 1) Qc)))))))
  (Qd (Yn (Va Y1 Y2 Y3 Xx (pv 9) (Qa (Qy (Qa Xj (Qa (Xo (Qa (Qy (Qa (pv 8) (Qa Qe Qc))) Qc)) Qc))) Qc)))
  (Qd (Yo PassesOwn.never rfl (Xq (Xo (Qa (Qy (Qa (pv 2) (Qa (pv 5) Qc))) (Qa (Qy (Qa (pv 2) (Qa (pv 9) Qc))) (Qa (Qy (Qa Xh (Qa (pv 5) Qc))) Qc))))) (Yb (K:=K) (i:=10) (j:=11) rfl rfl scLaw.nd rfl rfl rfl rfl) (Qd (Z4 12 scLaw.nd (Xc ae (Y.mono Dc) (Qa (pv 1) (Qa (pv 10) (Qa (pv 11) (Qa (pv 3) (Qa (pv 4) Qc)))))))
  (Qh (Xg (Xr (Xl (Xc ac (Y.mono Dc) (Qa (pv 1) (Qa (pv 10) (Qa (pv 11) (Qa (pv 3) (Qa (pv 4) (Qa (pv 12) Qc))))))))) (Qh (Qp Qbp)) Qq))))
  (Qh (Qp (Xz (Qvl (n:=6) bI) (pv 5) (Xc I (Y.mono Dc) (Qa (pv 1) (Qa (pv 2) (Qa (Yi Kg (pv 0) (Yj Qe) (Yj Qe)) Qc)))) (Qs _))))))))))))))),?_⟩
 exists"z"
 exists 4,a,ns,5,5,rfl,hS,hB,Dc,Dc,Dc,Dc,fun t rs cs H1 s1 pt aG cB cp=>?_
 exists 4,a,ns,9,rfl,s1.seq hS,hB,Dc,fun z9 _=>?_
 exists 7,⟨Dc,Dc⟩,7,by show(0:Int)<9;decide,_,_,rfl,rfl,Z1 2,fun p2 aO=>?_
 have a2:=Qb aO (.lst [.non,.int (z9 / 2 % 9-4)])
 have b2:upd H1 p2 (.lst [.non,.int (z9 / 2 % 9-4)]) p2=some (.lst [.non,.int (z9 / 2 % 9-4)]):=upd_same
 generalize upd H1 p2 (.lst [.non,.int (z9 / 2 % 9-4)])=H2 at a2 b2⊢
 have s2:=s1.trans a2
 exists 4,a,ns,9,rfl,s2.seq hS,hB,Dc,fun y9 _=>?_
 have e0:=jQf y9 (show(2:Int)≠0 by decide)
 have e1:=jQa y9 (show(0:Int)<2 by decide)
 obtain⟨c,bp⟩:∃c:Option Int,atI [V.non,.int (z9 / 2 % 9-4)] (y9 % 2)=some (Xm c):=by
  rcases two_of (v:=.non) (x:=V.non) (y:=.int (z9 / 2 % 9-4)) e0 e1 with e | e
  .exact⟨none,e⟩
  .exact⟨some _,e⟩
 exists 7,by show(0:Int)<2;decide,p2,_,_,_,rfl,rfl,Qg b2,bp,?_
 exists 4,4,t,a,rs,cs,ns,rfl,pt.same a2,aG,Om,Om,s2.seq hS,hB,fun t2 bz bg m H3 a3 po tw=>?_
 have s3:=s2.trans a3
 exists 4,4,a,ns,12,rfl,s3.seq hS,hB,Dc,fun af _=>?_
 exists 7,⟨Dc,Dc⟩,7,by show(0:Int)<9;decide,_,_,rfl,rfl,Z1 3,fun p4 aS=>?_
 have a4:=Qb aS (.lst [Xm c,.non,.int (af / 3 % 9-4)])
 have b4:upd H3 p4 (.lst [Xm c,.non,.int (af / 3 % 9-4)]) p4=some (.lst [Xm c,.non,.int (af / 3 % 9-4)]):=upd_same
 generalize upd H3 p4 (.lst [Xm c,.non,.int (af / 3 % 9-4)])=H4 at a4 b4⊢
 have s4:=s3.trans a4
 exists 4,a,ns,12,rfl,s4.seq hS,hB,Dc,fun ar _=>?_
 obtain⟨C,aU⟩:∃C:Option Int,atI [Xm c,V.non,.int (af / 3 % 9-4)] (ar % 3)=some (Xm C):=by
  rcases(show ar % 3=0\/ar % 3=1\/ar % 3=2 by lia)with e | e | e
  .rw[e];exists c,rfl
  .rw[e];exists none,rfl
  .rw[e];exists some _,rfl
 exists 7,by show(0:Int)<3;decide,p4,_,_,_,rfl,rfl,Qg b4,aU,?_
 exists 4,4,4,4,4,a,4,s4.seq hS,fun c5 bP=>?_
 obtain⟨zs,bv,cv⟩:=cut43 ns
 rw[bv]
 have a5:=Qb bP (.lst (zs.map V.int))
 have b5:upd H4 c5 (.lst (zs.map V.int)) c5=some (.lst (zs.map V.int)):=upd_same
 generalize upd H4 c5 (.lst (zs.map V.int))=H5 at a5 b5⊢
 have s5:=s4.trans a5
 have cc:=(a3.trans a4).trans a5
 have ck:=(pt.same (a2.trans cc)).at
 exists t,c5,rs,cs,c,zs,rfl,ck,aG,Qg b5,Om,Om,Om,fun g l H6 a6 _ bx ax ad cq=>?_
 have bY:=Qsk rs cs c zs
 have lu:=Paired.length ax
 generalize bA:(papF rs cs c zs).1=lns at ax ad bY lu
 have s6:=s5.trans a6
 have p6:=(a4.trans a5).trans a6
 exists 4,a,ns,13,rfl,s6.seq hS,hB,Dc,fun r _=>?_
 have ptT:=pt.same (a2.trans (a3.trans p6))
 obtain⟨lP,cP,vP,ht,cd,ca,ct⟩:=id ptT
 exists 4,t,8,ht,at0,lP,4,.inl (Qg cd),Z1 2,fun w1 bM=>?_
 have a7:=Qb bM (.tup [.str "given",.int (vP.length:Int)])
 have b7:upd H6 w1 (.tup [.str "given",.int (vP.length:Int)]) w1=some (.tup [.str "given",.int (vP.length:Int)]):=upd_same
 generalize upd H6 w1 (.tup [.str "given",.int (vP.length:Int)])=H7 at a7 b7⊢
 exists Z1 0,fun e2 ce=>?_
 have a8:=Qb ce (.lst [])
 have b8:upd H7 e2 (.lst []) e2=some (.lst []):=upd_same
 generalize upd H7 e2 (.lst [])=H8 at a8 b8⊢
 exists Z1 2,fun w2 bR=>?_
 have a9:=Qb bR (.tup [.str "sum",.ref e2])
 have b9:upd H8 w2 (.tup [.str "sum",.ref e2]) w2=some (.tup [.str "sum",.ref e2]):=upd_same
 generalize upd H8 w2 (.tup [.str "sum",.ref e2])=H9 at a9 b9⊢
 exists Z1 1,fun w3 bU=>?_
 have bj:=Qb bU (.tup [.str "no"])
 have bl:upd H9 w3 (.tup [.str "no"]) w3=some (.tup [.str "no"]):=upd_same
 generalize upd H9 w3 (.tup [.str "no"])=H10 at bj bl⊢
 exists Z1 3,fun W hW=>?_
 have aV:=Qb hW (.lst [.ref w1,.ref w2,.ref w3])
 have bD:upd H10 W (.lst [.ref w1,.ref w2,.ref w3]) W=some (.lst [.ref w1,.ref w2,.ref w3]):=upd_same
 generalize upd H10 W (.lst [.ref w1,.ref w2,.ref w3])=aL at aV bD⊢
 have aD:=bj.trans aV
 have ak:=a9.trans aD
 have X:=(a7.trans a8).trans ak
 have cy:=ca.length
 obtain⟨B,wl,bX,bZ,bt⟩:∃B wl,atI [V.ref w1,.ref w2,.ref w3] (r % 3)=some (.ref B)/\DLAt K aL B wl/\DLok cs.length wl:=by
  rcases(show r % 3=0\/r % 3=1\/r % 3=2 by lia)with e | e | e
  .rw[e];exists w1,.giv (vP.length:Int),rfl,(a8.trans ak).tup (Qn b7),by show(0:Int)<=_;lia,by show(vP.length:Int)<1000000;lia
  .rw[e];exists w2,.sm [],rfl,⟨e2,aD.tup (Qn b9),[],Qg (ak _ _ b8),.nil⟩,by show 0<=10;decide,fun p hp=>nomatch hp
  .rw[e];exists w3,.no,rfl,aV.tup (Qn bl),trivial
 exists 4,7,by show(0:Int)<3;decide,W,_,_,_,rfl,rfl,Qg bD,bX,?_
 have bC:=s6.trans X
 have ao:=X _ _ bx
 have aC:=LinesAt.same ax X
 exists 4,7,⟨Dc,Dc⟩,4,g,4,.inl (Qg ao),7,7,by show(0:Int)<_;lia,?_
 obtain⟨n,en,hn⟩:∃n:Nat,(r / 3 % ((l.length:Int)+1))=((n:Nat):Int)/\n<=l.length:=by
  have h0:=jQf (r / 3) (show(l.length:Int)+1≠0 by lia)
  have h1:=jQa (r / 3) (show 0<(l.length:Int)+1 by lia)
  exists (r / 3 % ((l.length:Int)+1)).toNat,Om,Om
 exists 4,4,4,g,4,Qg ao,fun p1 ch=>?_
 have cg:cutV l none (some (r / 3 % ((l.length:Int)+1)))=l.take n:=by rw[en];exact Qvx l n hn
 rw[cg]
 have bn:=Qb ch (.lst (l.take n))
 have bq:upd aL p1 (.lst (l.take n)) p1=some (.lst (l.take n)):=upd_same
 generalize upd aL p1 (.lst (l.take n))=H12 at bn bq⊢
 exists 4,Z1 1,fun p2 aO=>?_
 have aE:=Qb aO (.lst [.ref B])
 have a0:upd H12 p2 (.lst [.ref B]) p2=some (.lst [.ref B]):=upd_same
 generalize upd H12 p2 (.lst [.ref B])=H13 at aE a0⊢
 exists p1,p2,7,aE _ _ bq,a0,by rw[yY];show _+1<=_;lia,fun p3 bN=>?_
 have bF:=Qb bN (.lst (l.take n++[.ref B]))
 have bk:upd H13 p3 (.lst (l.take n++[.ref B])) p3=some (.lst (l.take n++[.ref B])):=upd_same
 generalize upd H13 p3 (.lst (l.take n++[.ref B]))=H14 at bF bk⊢
 have U:=(bn.trans aE).trans bF
 have bT:=bC.trans U
 exists 4,4,4,g,4,Qg (U _ _ ao),fun p4 aS=>?_
 have bK:cutV l (some (r / 3 % ((l.length:Int)+1))) none=l.drop n:=by rw[en];exact Qst l n hn
 rw[bK]
 have aw:=Qb aS (.lst (l.drop n))
 have ag:upd H14 p4 (.lst (l.drop n)) p4=some (.lst (l.drop n)):=upd_same
 generalize upd H14 p4 (.lst (l.drop n))=H15 at aw ag⊢
 have L:=U.trans aw
 have cz:=bT.trans aw
 have bi:=Qkr aC n
 have bW:=Paired.length bi
 rw[wY,wY]at bW
 exists p4,rfl,⟨_,Qg ag⟩,fun D hD=>?_
 let bG:Nat->St->List V->Hp->Prop:=fun i τ G J=>∃v:Option V,τ=[v,some (.int (r / 3 % ((l.length:Int)+1)))]/\J D=some (.lst G)/\Paired (fun v ln=>∃u,v=V.ref u/\DLg K J D u ln) G (((lns.drop n).take i).map (DL.ren (mvF n)))/\G.length=i/\Same H15 J
 refine Yg (n:=l.length-n) bG ?_ (fun i τ G J hi h=>?_) (fun i τ G J hi h=>?_) (fun τ G J h=>?_) ?_ ?_
 .exact⟨none,rfl,upd_same,.nil,rfl,Qb hD _⟩
 .obtain⟨v,rfl,hE,_,hl,_⟩:=h
  exists hE,Om
 .obtain⟨v,rfl,hE,_,hl,k⟩:=h
  exists _,(l.drop n)[i]'(by rw[wY];exact hi),Qg (k _ _ ag),gE (by rw[wY];exact hi)
 .obtain⟨v,rfl,hE,_,hl,k⟩:=h
  exists _,Qg (k _ _ ag),by rw[wY];exact jJ _
 .rintro i τ G J0 x J hi ⟨v,rfl,hE,aa,hl,k⟩ ⟨rfl,e9⟩
  obtain⟨ln,el,u,rfl,cb⟩:=L2.Xw bi (e9 _ (Qg (k _ _ ag)))
  have cj:ln∈lns:=kKe (kK el)
  exists 4,4,u,D,_,ln,cs.length,n,by show[V.ref u,V.int (r / 3 % ((l.length:Int)+1))]=_;rw[en],hE,DLg.of (cb.same L) k hD,ad.ok ln cj,Om,fun u' J2 k2 hN=>?_
  have aK:=k2 _ _ hE
  exists aK,4,upd_same,?_,by rw[jV,hl];rfl,fun b o e=>?_
  .rw[Qov el,kY]
   exact Paired.snoc (Paired.mapP aa fun _ _ ⟨u,e,w⟩=>⟨u,e,(w.same k2).upd aK⟩) ⟨u',rfl,hN.upd aK⟩
  .rw[Qj (Qi e hD)];exact k2 _ _ (k _ _ e)
 rintro τ G J ⟨v,rfl,hE,aa,hl,k⟩
 rw[zX (by rw[wY];lia)]at aa
 have aa:LinesAt K J G ((lns.drop n).map (DL.ren (mvF n))):=Paired.mapP aa fun _ _ ⟨u,e,w⟩=>⟨u,e,w.at hE⟩
 exists p3,D,7,(aw.trans k) _ _ bk,hE,by rw[jV,yY];show _+1+_<=_;lia,fun S aH=>?_
 have ay:=Qb aH (.lst (l.take n++[.ref B]++G))
 have av:upd J S (.lst (l.take n++[.ref B]++G)) S=some (.lst (l.take n++[.ref B]++G)):=upd_same
 generalize upd J S (.lst (l.take n++[.ref B]++G))=H16 at ay av⊢
 have kS:=k.trans ay
 exists 4,.inl ⟨rfl,_,Qg av⟩,4,Z1 2,fun q1 cf=>?_
 have aT:=Qb cf (.tup [.int (r / 3 % ((l.length:Int)+1)),.int 1])
 have bs:upd H16 q1 (.tup [.int (r / 3 % ((l.length:Int)+1)),.int 1]) q1=some (.tup [.int (r / 3 % ((l.length:Int)+1)),.int 1]):=upd_same
 generalize upd H16 q1 (.tup [.int (r / 3 % ((l.length:Int)+1)),.int 1])=H17 at aT bs⊢
 exists Z1 1,fun q2 aQ=>?_
 have aR:=Qb aQ (.lst [.ref q1])
 have bm:upd H17 q2 (.lst [.ref q1]) q2=some (.lst [.ref q1]):=upd_same
 generalize upd H17 q2 (.lst [.ref q1])=H18 at aR bm⊢
 exists Z1 2,fun q3 b6=>?_
 have au:=Qb b6 (.tup [.str "sum",.ref q2])
 have a1:upd H18 q3 (.tup [.str "sum",.ref q2]) q3=some (.tup [.str "sum",.ref q2]):=upd_same
 generalize upd H18 q3 (.tup [.str "sum",.ref q2])=H19 at au a1⊢
 have T:=(aT.trans aR).trans au
 have aM:=T _ _ av
 exists S,7,aM,by rw[jV,jV,yY];show _+1+_+1<=_;lia,?_
 have bJ:=k.trans (ay.trans T)
 have kk:Same H15 (upd H19 S (.lst (l.take n++[.ref B]++G++[.ref q3]))):=fun b o e=>by rw[Qj (Qi (k _ _ e) aH)];exact bJ _ _ e
 have bS:upd H19 S (.lst (l.take n++[.ref B]++G++[.ref q3])) S=some (.lst (l.take n++[.ref B]++G++[.ref q3])):=upd_same
 have ba:LinesAt K (upd H19 S (.lst (l.take n++[.ref B]++G++[.ref q3]))) (l.take n++[.ref B]++G++[.ref q3]) (Qqc n wl lns):=by
  have kJ:Same J (upd H19 S (.lst (l.take n++[.ref B]++G++[.ref q3]))):=fun b o e=>by rw[Qj (Qi e aH)];exact(ay.trans T) _ _ e
  have L1:=LinesAt.same (Qkq aC n) ((L.trans k).trans kJ)
  have L3:=LinesAt.same aa kJ
  have nS:q2≠S:=fun z=>by rw[z,aT _ _ av]at aQ;cases aQ
  refine Qfo (Qfo (Qfo L1 (.cons ⟨B,rfl,bZ.same ((L.trans k).trans kJ)⟩ .nil)) L3) (.cons ⟨q3,rfl,q2,Xv aM (Qn a1),_,Qg (by rw[Qj nS];exact au _ _ bm),.cons ⟨q1,rfl,?_⟩ .nil⟩ .nil)
  have:=Xv (zs:=l.take n++[.ref B]++G++[.ref q3]) aM ((aR.trans au).tup (Qn bs (K:=K)))
  rw[en]at this
  exact this
 generalize upd H19 S (.lst (l.take n++[.ref B]++G++[.ref q3]))=H20 at kk bS ba⊢
 have al:=L.trans kk
 have cm:=bC.trans al
 exists 4,4,Z1 2,fun r1 aX=>?_
 have bw:=Qb aX (.tup [Xm c,.ref g])
 have aZ:upd H20 r1 (.tup [Xm c,.ref g]) r1=some (.tup [Xm c,.ref g]):=upd_same
 generalize upd H20 r1 (.tup [Xm c,.ref g])=H21 at bw aZ⊢
 exists 4,4,Z1 2,fun r2 ci=>?_
 have bc:=Qb ci (.tup [Xm c,.ref S])
 have aY:upd H21 r2 (.tup [Xm c,.ref S]) r2=some (.tup [Xm c,.ref S]):=upd_same
 generalize upd H21 r2 (.tup [Xm c,.ref S])=H22 at bc aY⊢
 exists 4,Z1 2,fun r3 cl=>?_
 have bf:=Qb cl (.tup [.non,.ref g])
 have aW:upd H22 r3 (.tup [.non,.ref g]) r3=some (.tup [.non,.ref g]):=upd_same
 generalize upd H22 r3 (.tup [.non,.ref g])=H23 at bf aW⊢
 exists Z1 3,fun R hR=>?_
 have aJ:=Qb hR (.lst [.ref r1,.ref r2,.ref r3])
 have aN:upd H23 R (.lst [.ref r1,.ref r2,.ref r3]) R=some (.lst [.ref r1,.ref r2,.ref r3]):=upd_same
 generalize upd H23 R (.lst [.ref r1,.ref r2,.ref r3])=H24 at aJ aN⊢
 have an:=bf.trans aJ
 have am:=bc.trans an
 have N:=bw.trans am
 have b1:=cm.trans N
 have az:=(X.trans al).trans N
 have aq:=(ptT.same az).at
 have aA:=ProbAt.same (p6.trans az) po
 have ah:=az _ _ bx
 have ap:=LinesAt.same ax az
 have cA:=Qqd n wl lns
 have bV:∀v∈[V.ref r1,.ref r2,.ref r3],∃(ri pp:Addr) (ob:Option Int) (aj:List V) (ls:List DL),v=.ref ri/\SqT K H24 ri [Xm ob,.ref pp]/\SqL K H24 pp aj/\LinesAt K H24 aj ls/\(∀ln∈ls,DLok cs.length ln)/\ls.length<=60:=fun v hv=>by
  rcases yK.mp hv with rfl | hv
  .exact⟨r1,g,c,l,lns,rfl,am.tup (Qn aZ),Qg ah,ap,ad.ok,Om⟩
  .rcases yK.mp hv with rfl | hv
   .exact⟨r2,S,c,_,Qqc n wl lns,rfl,an.tup (Qn aY),Qg (N _ _ bS),LinesAt.same ba N,Qsu ad Om Om bt,Om⟩
   .rw[kW.mp hv]
    exists r3,g,none,l,lns,rfl,aJ.tup (Qn aW),Qg ah,ap,ad.ok,Om
 let bd:Nat->St->Hp->Prop:=fun j σ J5=>∃aI aF aP:Option V,σ=[some (.ref a),some (.ref t),some (Xm c),some (.ref t2),some (Xm C),some (.ref g),some (.int r),some (.ref B),some (.int (r / 3 % ((l.length:Int)+1))),some (.ref S),aI,aF,aP]/\Same H24 J5
 exists R,rfl,⟨_,Qg aN⟩,Zd (K:=K) (a:=R) (xs:=[.ref r1,.ref r2,.ref r3]) bd ⟨none,none,none,rfl,Same.refl _⟩ (fun j σ J5 _ h=>?_) ?_ ?_
 .obtain⟨_,_,_,rfl,kz⟩:=h
  exact Qg (kz _ _ aN)
 .rintro j x σ J5 ex ⟨aI,aF,aP,rfl,k5⟩
  obtain⟨ri,pp,ob,aj,ls,rfl,bQ,bB,bu,bE,aB⟩:=bV x (kK ex)
  exists ri,4,k5.tup bQ,rfl,_,4,7,?_
  exists 4,4,4,4,4,t,pp,t2,aj,ls,rs,cs,ob,bz,bg,C,m,4,ProbAt.same k5 aq,k5.seq bB,LinesAt.same bu k5,bE,ProbAt.same k5 aA,tw,aB,rfl,fun gd wd J6 k6 _ b3 bb=>?_
  have ai:=k5.trans k6
  exists 4,4,4,4,4,4,t,pp,t2,gd,aj,wd,ls,rs,cs,ob,bz,bg,C,m,4,ProbAt.same ai aq,ai.seq bB,LinesAt.same bu ai,bE,ProbAt.same ai aA,tw,aB,Qg b3,bb,fun J7 k7=>?_
  exists 4,iteF ⟨_,_,_,rfl,ai.trans k7⟩
 .rintro σ J5 ⟨aI,aF,aP,rfl,k5⟩
  have bO:=b1.trans k5
  exists 4,4,4,4,4,4,a,4,bO.seq hS,fun c6 cn=>?_
  rw[bv]
  have bo:=Qb cn (.lst (zs.map V.int))
  have br:upd J5 c6 (.lst (zs.map V.int)) c6=some (.lst (zs.map V.int)):=upd_same
  generalize upd J5 c6 (.lst (zs.map V.int))=J6 at bo br⊢
  have bH:=k5.trans bo
  exists t,c6,rs,cs,c,zs,rfl,ProbAt.same bH aq,aG,Qg br,Om,Om,Om,fun g2 cr J7 k7 _ bL be cx cw=>?_
  rw[bA]at be
  have bh:=bH.trans k7
  exists g,g2,rfl,rfl,Qko (n:=2) (Qg (bh _ _ ah)) (Qg bL) (LinesAt.same ap bh) be,q J7
abbrev Qfp:Stmt:=top 58
abbrev Qfq:Stmt:=top 47
theorem scTold32:FnScope ["_law_problem_here","_law_best","_law_paper_here","_law_heard","_law_line","_law_row_here"] ["_law_problem_here","_law_best","_law_paper_here"] (Qf Qfp):=Sc
theorem Qsv(F:Fn K mg "_law_told" Qfp)(M:Mg mg)(l:qC 3 "_law_row" ["_law_problem_here","_law_best","_law_heard","_law_line"] (Qfk K)):qC 4 "_law_told" ["_law_problem_here","_law_best","_law_paper_here"] (Qtt K):=by
 refine Xf F scTold32 (a:=fun f ae A N s H vs Q E O h=>?_)
 obtain⟨t,L,rs,X,cs,c,us,U,rfl,hP,D,T,v,Z,hn,hm,ac,q⟩:=h
 refine⟨_,(Qd (Z4 3 scTold32.nd (Xo Qc))
  (Qd (Xg (Xr (Xl (Qk Xn rfl M.isinstance Qx (Qa (pv 2) (Qa (Jh M.list_ Yu) Qc))))) (Qh (Qp Xh)) Qq)
  (Qd (Yo PassesOwn.never rfl (Xq (pv 2)) (Z3 4 scTold32.nd) (Qd (Z4 5 scTold32.nd (Xc l (O.mono Dc) (Qa (pv 0) (Qa (pv 1) (Qa (pv 3) (Qa (pv 4) Qc))))))
  (Qd (Xg (Qr Qax (pv 5) Xh (Qs _)) (Qh (Qp Xh)) Qq)
  (Qh (Yn (Va Y1 Y2 Y3 Xx (pv 3) (Qa (pv 5) Qc)))))))
  (Qh (Qp (pv 3)))))),?_⟩
 refine Jj ?_;intros
 exists"z"
 have lu:=Paired.length v
 have ab:=Z.length
 have aa:=Z.len D
 exists Z1 0,fun g R=>?_
 have I:=Qb R (.lst [])
 have b1:upd H g (.lst []) g=some (.lst []):=upd_same
 generalize upd H g (.lst [])=H1 at I b1⊢
 exists 4,_,"list",true,rfl,.list,.inr ⟨⟨_,I.seq T⟩,rfl⟩,4,iteF ?_
 let B:Nat->St->Hp->Prop:=fun i G n=>∃(m:List V) (W S:Option V),G=[some (.ref t),some (Xm c),some (.ref L),some (.ref g),W,S]/\n g=some (.lst m)/\RowsAre K n m (X.take i)/\m.length=i/\Same H n
 exists 4,L,rfl,⟨_,I.seq T⟩,Zd (K:=K) (a:=L) (xs:=us) B ⟨[],none,none,rfl,b1,.nil,rfl,I⟩ (fun i G n _ h=>?_) ?_ ?_
 .obtain⟨_,_,_,rfl,_,_,_,p⟩:=h
  exact p.seq T
 .rintro i x G n e1 ⟨m,W,S,rfl,j,d,lw,p⟩
  have hi:=(jW.mp e1).1
  obtain⟨ln,el,u,rfl,hD⟩:=L2.Xw v e1
  obtain⟨o,r,er,eo⟩:=Z.at el
  exists 4,4,4,4,t,g,u,rs,X.take i,cs,c,m,ln,rfl,ProbAt.same p hP,D,Qg j,d,by rw[yY];lia,fun r O=>aa r (kYc O),hD.same p,o,hn,hm,fun z=>(by rw[eo]at z;cases z),fun r' C t' H3 J Y=>?_
  rw[eo]at C
  cases C
  have k:=J _ _ j
  exists 4,rfl,4,ite2 (fun y=>Y21 (yQ y) (fun z=>nomatch z)) (fun _=>?_)
  exists 4,.inl ⟨rfl,_,Qg k⟩,4,g,7,k,Om,?_
  exists m++[.ref t'],_,4,upd_same,?_,by rw[jV,lw];rfl,fun b o e=>?_
  .rw[Qov er]
   exact RowsAre.snoc (d.imp fun _ _ w=>(w.same J).upd k) (RowAt.upd k Y)
  .rw[Qj (Qi e R)];exact J _ _ (p _ _ e)
 .rintro G n ⟨m,W,S,rfl,j,d,lw,p⟩
  rw[zX Om]at d
  exists 4,q g m n p R j d
theorem Qsw:FnScope ["_law_problem_here"] ["_law_problem_here"] (Qf Qfq):=Sc
theorem Qsx(F:Fn K mg "_law_copy" Qfq)(M:Mg mg):qC 1 "_law_copy" ["_law_problem_here"] (Qtu K):=by
 refine Xf F Qsw (fun _ _ _ _ _ _=>bind1 (fun _=>rfl)) (fun o H Q E h=>?_) (fun f n A d s H o Q E v h=>?_)
 .obtain⟨t,l,c,a,rfl,_⟩:=h
  rfl
 obtain⟨t,l,c,a,rfl,k,p,⟨u,r⟩,q⟩:=h
 exists _,(Qh (Qp (Qy (Qa (Qz Zk rfl M.list_ Yu (Qa (Qo Qm (pv 0) Qe) Qc)) (Qa (Qo Qm (pv 0) Qe) Qc))))),?_
 exists 4,t,8,k,at0,l,4,.inl p,fun g m=>?_
 have b:=Qb m (.lst a)
 have e:upd H g (.lst a) g=some (.lst a):=upd_same
 generalize upd H g (.lst a)=H1 at b e⊢
 exists 4,t,8,b.tup k,at1,Z1 2,fun T j=>?_
 have i:=Qb j (.tup [.ref g,.ref c])
 exact q T g _ (b.trans i) (Qau b j) m (Qn upd_same) (i _ _ e)
theorem na_all(j:NoAttr K C "problem")(i:NoAttr K C "best")(h:NoAttr K C "other")(k:NoAttr K C "other_best")(l:NoAttr K C "more")(f:NoAttr K C "old")(g:NoAttr K C "places")(e:NoAttr K C "lines")(d:NoAttr K C "told")(c:NoAttr K C "known")(a:NoAttr K C "numbers"):∀x∈(["problem","best","other","other_best","more","old","places","lines","told","known","numbers"]:List Str),NoAttr K C x:=fun x b=>by
 simp only[yK,List.not_mem_nil,or_false]at b
 rcases b with rfl | rfl | rfl | rfl | rfl | rfl | rfl | rfl | rfl | rfl | rfl
 .exact j
 .exact i
 .exact h
 .exact k
 .exact l
 .exact f
 .exact g
 .exact e
 .exact d
 .exact c
 .exact a
def htop(i:Nat):Stmt:=PySem.Challenge.pw_nonebetter_k71_whole_papers_carried_over.main.body.getD i (.Pass ⟨0,0,0,0⟩)
abbrev fO(a b:Str)(s:Stmt)(k:Addr)(v:Value)(r:Addr):Obj:=.mk (.type "function") none (.func (.mk a b (L2.Qw s) (.stmts (L2.Qv s)) (L2.Qf s) k [] .none .none .none v none (.ref r) .none 0)) #[]
abbrev cO(a:Str)(i:Tok)(b:Str)(j k:Tok)(l m n o p:Int)(u r:Addr)(v1 v2 v3 v4:Value)(x y:Int)(z:Tok):Obj:=.mk (.type "code") none (.fields #[.str a i,.str b j,.str "/claim/cut.py" k,.int l 0,.int m 0,.int n 0,.int o 0,.int p 0,.ref u,.bool Bool.true,.int 181 0,.ref r,v1,v2,v3,v4,.int x 0,.int y 0,.str "/claim/cut.py" z]) #[]
abbrev tO(v:Array Value):Obj:=.mk (.type "tuple") none (.seq v) #[]
abbrev kO(P:Params)(x:Str)(i:Tok)(v:Value):DictEntry:=.mk (PyData.keyHash P x) (.str x i) v
local macro_rules|`(term|q3 $i $x)=>`(term|$x)|`(term|q3 $i $n:num $x $b*)=>`(term|bif beq $i $n then $x else q3 $i $b*)
local macro_rules|`(term|q4 $a $n $m)=>`(term|fO $a $a (htop $n) 3 (.str "law_nonebetter_k71_whole_papers_carried_over" 592) $m)
local macro_rules|`(term|q5 $a $n $m $b*)=>`(term|cO $a $n $a $m $b*)
def hob0(i:Nat)(P:Params):Obj:=q3 i 3 (.mk (.type "dict") none (.dict #[kO P "__name__" 165 (.str "law_nonebetter_k71_whole_papers_carried_over" 592),kO P "__doc__" 166 .none,kO P "__package__" 167 .none,kO P "__loader__" 168 (.builtin "__main__.__loader__#opaque"),kO P "__spec__" 169 .none,kO P "__annotations__" 170 (.ref 6),kO P "__builtins__" 171 (.ref 4),kO P "__file__" 173 (.str "/claim/cut.py" 172),kO P "__cached__" 174 .none,kO P "is_whole" 195 (.ref 21),kO P "is_number_of" 203 (.ref 28),kO P "is_pair" 210 (.ref 35),kO P "single_row" 223 (.ref 42),kO P "better_row" 229 (.ref 47),kO P "sum_row" 235 (.ref 52),kO P "share_row" 241 (.ref 57),kO P "shut_row" 253 (.ref 64),kO P "without" 261 (.ref 71),kO P "either_row" 270 (.ref 78),kO P "like_row" 280 (.ref 85),kO P "renumbered" 286 (.ref 90),kO P "most_of" 301 (.ref 97),kO P "turned" 312 (.ref 104),kO P "turn_keeps" 318 (.ref 109),kO P "is_ahead" 328 (.ref 116),kO P "is_part" 336 (.ref 123),kO P "is_hold" 344 (.ref 130),kO P "are_holds" 350 (.ref 135),kO P "is_turn" 356 (.ref 140),kO P "told_given" 366 (.ref 147),kO P "told_low" 377 (.ref 154),kO P "told_high" 388 (.ref 161),kO P "told_better" 398 (.ref 168),kO P "told_sum" 404 (.ref 173),kO P "told_share" 410 (.ref 178),kO P "told_shut" 423 (.ref 185),kO P "told_either" 436 (.ref 192),kO P "told_like" 447 (.ref 199),kO P "LENGTHS" 475 (.ref 200),kO P "TELLERS" 494 (.ref 201),kO P "row_told" 505 (.ref 208),kO P "widened" 515 (.ref 215),kO P "Carrier" 578 (.ref 246),kO P "carried" 591 (.ref 257),kO P "_law_mix" 602 (.ref 264),kO P "_law_cell_at" 610 (.ref 271),kO P "_law_left" 618 (.ref 278),kO P "_law_draw" 627 (.ref 285),kO P "_law_problem" 633 (.ref 290),kO P "_law_holds" 645 (.ref 297),kO P "_law_copy" 652 (.ref 304),kO P "_law_is" 660 (.ref 311),kO P "_law_simple" 666 (.ref 316),kO P "_law_summed" 672 (.ref 321),kO P "_law_shared" 678 (.ref 326),kO P "_law_most" 684 (.ref 331),kO P "_law_shut_out" 690 (.ref 336),kO P "_law_shut" 696 (.ref 341),kO P "_law_either" 706 (.ref 348),kO P "_law_like" 712 (.ref 353),kO P "_law_row" 722 (.ref 360),kO P "_law_told" 734 (.ref 367),kO P "_law_drawn" 752 (.ref 374),kO P "_law_turn" 763 (.ref 381),kO P "_law_paper" 777 (.ref 388),kO P "_law_other" 783 (.ref 393),kO P "_law_moved" 789 (.ref 398),kO P "_law_named" 795 (.ref 403),kO P "_law_kept" 801 (.ref 408),kO P "_law_asked" 820 (.ref 415),kO P "law" 826 (.ref 420)] 71) #[]) 20 (q5 "is_whole" 189 190 191 2 1 0 0 3 15 16 .none (.ref 17) (.ref 18) (.ref 19) 193 2 194) 21 (fO "is_whole" "is_whole" (htop 1) 3 (.str "nonebetter.kinds" 187) 20) 27 (q5 "is_number_of" 196 197 198 4 2 0 0 3 22 23 .none (.ref 24) (.ref 25) (.ref 26) 201 4 202) (fO "is_number_of" "is_number_of" (htop 2) 3 (.str "nonebetter.kinds" 187) 27)
def hob1(i:Nat)(P:Params):Obj:=q3 i 34 (q5 "is_pair" 204 205 206 6 1 0 0 3 29 30 .none (.ref 31) (.ref 32) (.ref 33) 208 6 209) 35 (fO "is_pair" "is_pair" (htop 3) 3 (.str "nonebetter.kinds" 187) 34) 41 (q5 "single_row" 213 214 215 9 4 0 0 3 36 37 .none (.ref 38) (.ref 39) (.ref 40) 221 9 222) 42 (fO "single_row" "single_row" (htop 5) 3 (.str "nonebetter.lines" 211) 41) (q5 "better_row" 224 225 226 13 2 0 0 3 43 44 .none .none .none (.ref 45) 227 13 228)
def hob2(i:Nat)(P:Params):Obj:=q3 i 47 (fO "better_row" "better_row" (htop 6) 3 (.str "nonebetter.lines" 211) 46) 51 (q5 "sum_row" 230 231 232 15 2 0 0 3 48 49 .none .none .none (.ref 50) 233 15 234) 52 (fO "sum_row" "sum_row" (htop 7) 3 (.str "nonebetter.lines" 211) 51) 56 (q5 "share_row" 236 237 238 22 2 0 0 3 53 54 .none .none .none (.ref 55) 239 22 240) (fO "share_row" "share_row" (htop 8) 3 (.str "nonebetter.lines" 211) 56)
def hob3(i:Nat)(P:Params):Obj:=q3 i 63 (q5 "shut_row" 242 243 244 24 2 0 0 3 58 59 .none (.ref 60) (.ref 61) (.ref 62) 251 24 252) 64 (fO "shut_row" "shut_row" (htop 9) 3 (.str "nonebetter.lines" 211) 63) 70 (q5 "without" 254 255 256 31 2 0 0 3 65 66 .none (.ref 67) (.ref 68) (.ref 69) 259 31 260) 71 (fO "without" "without" (htop 10) 3 (.str "nonebetter.lines" 211) 70) (q5 "either_row" 262 263 264 33 3 0 0 3 72 73 .none (.ref 74) (.ref 75) (.ref 76) 268 33 269)
def hob4(i:Nat)(P:Params):Obj:=q3 i 78 (fO "either_row" "either_row" (htop 11) 3 (.str "nonebetter.lines" 211) 77) 84 (q5 "like_row" 271 272 273 35 1 0 0 3 79 80 .none (.ref 81) (.ref 82) (.ref 83) 278 35 279) 85 (fO "like_row" "like_row" (htop 12) 3 (.str "nonebetter.lines" 211) 84) 89 (q5 "renumbered" 281 282 283 43 2 0 0 3 86 87 .none .none .none (.ref 88) 284 43 285) (fO "renumbered" "renumbered" (htop 13) 3 (.str "nonebetter.lines" 211) 89)
def hob5(i:Nat)(P:Params):Obj:=q3 i 96 (q5 "most_of" 289 290 291 54 2 0 0 3 91 92 .none (.ref 93) (.ref 94) (.ref 95) 299 54 300) 97 (fO "most_of" "most_of" (htop 15) 3 (.str "nonebetter.rows" 287) 96) 103 (q5 "turned" 302 303 304 62 2 0 0 3 98 99 .none (.ref 100) (.ref 101) (.ref 102) 310 62 311) 104 (fO "turned" "turned" (htop 16) 3 (.str "nonebetter.rows" 287) 103) (q5 "turn_keeps" 313 314 315 67 2 0 0 3 105 106 .none .none .none (.ref 107) 316 67 317)
def hob6(i:Nat)(P:Params):Obj:=q3 i 109 (fO "turn_keeps" "turn_keeps" (htop 17) 3 (.str "nonebetter.rows" 287) 108) 115 (q5 "is_ahead" 321 322 323 74 2 0 0 3 110 111 .none (.ref 112) (.ref 113) (.ref 114) 326 74 327) 116 (fO "is_ahead" "is_ahead" (htop 19) 3 (.str "nonebetter.judge" 319) 115) 122 (q5 "is_part" 329 330 331 76 2 0 0 3 117 118 .none (.ref 119) (.ref 120) (.ref 121) 334 76 335) (fO "is_part" "is_part" (htop 20) 3 (.str "nonebetter.judge" 319) 122)
def hob7(i:Nat)(P:Params):Obj:=q3 i 129 (q5 "is_hold" 337 338 339 78 2 0 0 3 124 125 .none (.ref 126) (.ref 127) (.ref 128) 342 78 343) 130 (fO "is_hold" "is_hold" (htop 21) 3 (.str "nonebetter.judge" 319) 129) 134 (q5 "are_holds" 345 346 347 80 2 0 0 3 131 132 .none .none .none (.ref 133) 348 80 349) 135 (fO "are_holds" "are_holds" (htop 22) 3 (.str "nonebetter.judge" 319) 134) (q5 "is_turn" 351 352 353 84 2 0 0 3 136 137 .none .none .none (.ref 138) 354 84 355)
def hob8(i:Nat)(P:Params):Obj:=q3 i 140 (fO "is_turn" "is_turn" (htop 23) 3 (.str "nonebetter.judge" 319) 139) 146 (q5 "told_given" 357 358 359 88 4 0 0 3 141 142 .none (.ref 143) (.ref 144) (.ref 145) 364 88 365) 147 (fO "told_given" "told_given" (htop 24) 3 (.str "nonebetter.judge" 319) 146) 153 (q5 "told_low" 367 368 369 92 4 0 0 3 148 149 .none (.ref 150) (.ref 151) (.ref 152) 375 92 376) (fO "told_low" "told_low" (htop 25) 3 (.str "nonebetter.judge" 319) 153)
def hob9(i:Nat)(P:Params):Obj:=q3 i 160 (q5 "told_high" 378 379 380 97 4 0 0 3 155 156 .none (.ref 157) (.ref 158) (.ref 159) 386 97 387) 161 (fO "told_high" "told_high" (htop 26) 3 (.str "nonebetter.judge" 319) 160) 167 (q5 "told_better" 389 390 391 102 4 0 0 3 162 163 .none (.ref 164) (.ref 165) (.ref 166) 396 102 397) 168 (fO "told_better" "told_better" (htop 27) 3 (.str "nonebetter.judge" 319) 167) (q5 "told_sum" 399 400 401 106 4 0 0 3 169 170 .none .none .none (.ref 171) 402 106 403)
def hob10(i:Nat)(P:Params):Obj:=q3 i 173 (fO "told_sum" "told_sum" (htop 28) 3 (.str "nonebetter.judge" 319) 172) 177 (q5 "told_share" 405 406 407 113 4 0 0 3 174 175 .none .none .none (.ref 176) 408 113 409) 178 (fO "told_share" "told_share" (htop 29) 3 (.str "nonebetter.judge" 319) 177) 184 (q5 "told_shut" 411 412 413 121 4 0 0 3 179 180 .none (.ref 181) (.ref 182) (.ref 183) 421 121 422) (fO "told_shut" "told_shut" (htop 30) 3 (.str "nonebetter.judge" 319) 184)
def hob11(i:Nat)(P:Params):Obj:=q3 i 191 (q5 "told_either" 424 425 426 130 4 0 0 3 186 187 .none (.ref 188) (.ref 189) (.ref 190) 434 130 435) 192 (fO "told_either" "told_either" (htop 31) 3 (.str "nonebetter.judge" 319) 191) 198 (q5 "told_like" 437 438 439 141 4 0 0 3 193 194 .none (.ref 195) (.ref 196) (.ref 197) 445 141 446) 199 (fO "told_like" "told_like" (htop 32) 3 (.str "nonebetter.judge" 319) 198) (.mk (.type "dict") none (.dict #[kO P "given" 448 (.int 2 449),kO P "low" 450 (.int 2 451),kO P "high" 452 (.int 2 453),kO P "better" 454 (.int 1 455),kO P "sum" 456 (.int 2 457),kO P "share" 458 (.int 3 459),kO P "shut" 460 (.int 3 461),kO P "either" 462 (.int 4 463),kO P "like" 464 (.int 2 465)] 9) #[])
def hob12(i:Nat)(P:Params):Obj:=q3 i 201 (.mk (.type "dict") none (.dict #[kO P "given" 476 (.ref 147),kO P "low" 477 (.ref 154),kO P "high" 478 (.ref 161),kO P "better" 479 (.ref 168),kO P "sum" 480 (.ref 173),kO P "share" 481 (.ref 178),kO P "shut" 482 (.ref 185),kO P "either" 483 (.ref 192),kO P "like" 484 (.ref 199)] 9) #[]) 207 (q5 "row_told" 495 496 497 148 4 0 0 3 202 203 .none (.ref 204) (.ref 205) (.ref 206) 503 148 504) 208 (fO "row_told" "row_told" (htop 35) 3 (.str "nonebetter.judge" 319) 207) 214 (q5 "widened" 508 509 510 156 2 0 0 3 209 210 .none (.ref 211) (.ref 212) (.ref 213) 513 156 514) (fO "widened" "widened" (htop 37) 3 (.str "nonebetter.changes" 506) 214)
def hob13(i:Nat)(P:Params):Obj:=q3 i 228 (cO "__init__" 528 "Carrier.__init__" 529 530 160 5 0 0 3 223 224 .none (.ref 225) (.ref 226) (.ref 227) 538 160 539) 229 (fO "__init__" "Carrier.__init__" (inClass (htop 38) 0) 3 (.str "nonebetter.changes" 506) 228) 235 (cO "bring" 541 "Carrier.bring" 542 543 175 2 0 0 3 230 231 .none (.ref 232) (.ref 233) (.ref 234) 547 175 548) 236 (fO "bring" "Carrier.bring" (inClass (htop 38) 1) 3 (.str "nonebetter.changes" 506) 235) (cO "place_of" 550 "Carrier.place_of" 551 552 180 3 0 0 3 237 238 .none (.ref 239) (.ref 240) (.ref 241) 557 180 558)
def hob14(i:Nat)(P:Params):Obj:=q3 i 243 (fO "place_of" "Carrier.place_of" (inClass (htop 38) 2) 3 (.str "nonebetter.changes" 506) 242) 245 (.mk (.type "dict") none (.dict #[kO P "__module__" 523 (.str "nonebetter.changes" 506),kO P "__firstlineno__" 527 (.int 158 526),kO P "__init__" 540 (.ref 229),kO P "bring" 549 (.ref 236),kO P "place_of" 559 (.ref 243),kO P "__static_attributes__" 571 (.ref 244),kO P "__dict__" 573 (.ref 247),kO P "__weakref__" 575 (.ref 248),kO P "__doc__" 576 .none] 4) #[]) 246 (.mk (.type "type") none (.cls (ClassData.mk "Carrier" [.type "object"] [.ref 246,.type "object"] 245 "Carrier" Bool.true [] [] Bool.false none Bool.false)) #[none,none,Option.some (.str "Carrier" 516),Option.some (.str "Carrier" 524),Option.some (.builtin "object.__new__"),Option.some (.bool Bool.true)]) 256 (q5 "carried" 579 580 581 191 5 0 0 3 251 252 .none (.ref 253) (.ref 254) (.ref 255) 589 191 590) (fO "carried" "carried" (htop 39) 3 (.str "nonebetter.changes" 506) 256)
def hob15(i:Nat)(P:Params):Obj:=q3 i 263 (q5 "_law_mix" 594 595 596 197 2 0 0 3 258 259 .none (.ref 260) (.ref 261) (.ref 262) 600 197 601) 264 (q4 "_law_mix" 41 263) 270 (q5 "_law_cell_at" 603 604 605 200 2 0 0 3 265 266 .none (.ref 267) (.ref 268) (.ref 269) 608 200 609) 271 (q4 "_law_cell_at" 42 270) (q5 "_law_left" 611 612 613 204 2 0 0 3 272 273 .none (.ref 274) (.ref 275) (.ref 276) 616 204 617)
def hob16(i:Nat)(P:Params):Obj:=q3 i 278 (q4 "_law_left" 43 277) 284 (q5 "_law_draw" 619 620 621 206 2 0 0 3 279 280 .none (.ref 281) (.ref 282) (.ref 283) 625 206 626) 285 (q4 "_law_draw" 44 284) 289 (q5 "_law_problem" 628 629 630 213 3 0 0 3 286 287 .none .none .none (.ref 288) 631 213 632) (q4 "_law_problem" 45 289)
def hob17(i:Nat)(P:Params):Obj:=q3 i 303 (q5 "_law_copy" 646 647 648 232 1 0 0 3 298 299 .none (.ref 300) (.ref 301) (.ref 302) 650 232 651) 304 (q4 "_law_copy" 47 303) 310 (q5 "_law_is" 653 654 655 234 2 0 0 3 305 306 .none (.ref 307) (.ref 308) (.ref 309) 658 234 659) 311 (q4 "_law_is" 48 310) (q5 "_law_simple" 661 662 663 236 3 0 0 3 312 313 .none .none .none (.ref 314) 664 236 665)
def hob18(i:Nat)(P:Params):Obj:=q3 i 316 (q4 "_law_simple" 49 315) 320 (q5 "_law_summed" 667 668 669 253 3 0 0 3 317 318 .none .none .none (.ref 319) 670 253 671) 321 (q4 "_law_summed" 50 320) 325 (q5 "_law_shared" 673 674 675 267 2 0 0 3 322 323 .none .none .none (.ref 324) 676 267 677) (q4 "_law_shared" 51 325)
def hob19(i:Nat)(P:Params):Obj:=q3 i 330 (q5 "_law_most" 679 680 681 274 2 0 0 3 327 328 .none .none .none (.ref 329) 682 274 683) 331 (q4 "_law_most" 52 330) 335 (q5 "_law_shut_out" 685 686 687 278 2 0 0 3 332 333 .none .none .none (.ref 334) 688 278 689) 336 (q4 "_law_shut_out" 53 335) (q5 "_law_shut" 691 692 693 283 2 0 0 3 337 338 .none .none .none (.ref 339) 694 283 695)
def hob20(i:Nat)(P:Params):Obj:=q3 i 341 (q4 "_law_shut" 54 340) 347 (q5 "_law_either" 697 698 699 293 3 0 0 3 342 343 .none (.ref 344) (.ref 345) (.ref 346) 704 293 705) 348 (q4 "_law_either" 55 347) 352 (q5 "_law_like" 707 708 709 298 2 0 0 3 349 350 .none .none .none (.ref 351) 710 298 711) (q4 "_law_like" 56 352)
def hob21(i:Nat)(P:Params):Obj:=q3 i 359 (q5 "_law_row" 713 714 715 317 4 0 0 3 354 355 .none (.ref 356) (.ref 357) (.ref 358) 720 317 721) 360 (q4 "_law_row" 57 359) 366 (q5 "_law_told" 723 724 725 335 3 0 0 3 361 362 .none (.ref 363) (.ref 364) (.ref 365) 732 335 733) 367 (q4 "_law_told" 58 366) (q5 "_law_drawn" 735 736 737 345 3 0 0 3 368 369 .none (.ref 370) (.ref 371) (.ref 372) 750 345 751)
def hob22(i:Nat)(P:Params):Obj:=q3 i 374 (q4 "_law_drawn" 59 373) 380 (q5 "_law_turn" 753 754 755 369 2 0 0 3 375 376 .none (.ref 377) (.ref 378) (.ref 379) 761 369 762) 381 (q4 "_law_turn" 60 380) 387 (q5 "_law_paper" 764 765 766 375 3 0 0 3 382 383 .none (.ref 384) (.ref 385) (.ref 386) 775 375 776) (q4 "_law_paper" 61 387)
def hob23(i:Nat)(P:Params):Obj:=q3 i 392 (q5 "_law_other" 778 779 780 385 2 0 0 3 389 390 .none .none .none (.ref 391) 781 385 782) 393 (q4 "_law_other" 62 392) 397 (q5 "_law_moved" 784 785 786 403 2 0 0 3 394 395 .none .none .none (.ref 396) 787 403 788) 398 (q4 "_law_moved" 63 397) (q5 "_law_named" 790 791 792 411 1 0 0 3 399 400 .none .none .none (.ref 401) 793 411 794)
def hob24(i:Nat)(P:Params):Obj:=q3 i 403 (q4 "_law_named" 64 402) 407 (q5 "_law_kept" 796 797 798 417 5 0 0 3 404 405 .none .none .none (.ref 406) 799 417 800) 408 (q4 "_law_kept" 65 407) 414 (q5 "_law_asked" 802 803 804 440 6 0 0 3 409 410 .none (.ref 411) (.ref 412) (.ref 413) 818 440 819) (q4 "_law_asked" 66 414)
def hob25(i:Nat)(P:Params):Obj:=q3 i 419 (q5 "law" 821 822 823 459 1 0 0 3 416 417 .none .none .none (.ref 418) 824 459 825) (q4 "law" 67 419)
def hob(i:Nat)(P:Params):Obj:=(bif ble i 215 then(bif ble i 108 then(bif ble i 57 then(bif ble i 28 then hob0 i P else(bif ble i 46 then hob1 i P else hob2 i P))else(bif ble i 77 then hob3 i P else(bif ble i 90 then hob4 i P else hob5 i P)))else(bif ble i 154 then(bif ble i 123 then hob6 i P else(bif ble i 139 then hob7 i P else hob8 i P))else(bif ble i 185 then(bif ble i 172 then hob9 i P else hob10 i P)else(bif ble i 200 then hob11 i P else hob12 i P))))else(bif ble i 326 then(bif ble i 277 then(bif ble i 242 then hob13 i P else(bif ble i 257 then hob14 i P else hob15 i P))else(bif ble i 290 then hob16 i P else(bif ble i 315 then hob17 i P else hob18 i P)))else(bif ble i 373 then(bif ble i 340 then hob19 i P else(bif ble i 353 then hob20 i P else hob21 i P))else(bif ble i 402 then(bif ble i 388 then hob22 i P else hob23 i P)else(bif ble i 415 then hob24 i P else hob25 i P)))))
local macro_rules|`(term|q1 $p $a:num)=>`(term|(nat_lit $a,hob (nat_lit $a) $p)::[])|`(term|q1 $p $a:num $b*)=>`(term|(nat_lit $a,hob (nat_lit $a) $p)::q1 $p $b*)
def heapK:Params->W.Frag:=fun P=>q1 P 3 20 21 27 28 34 35 41 42 46 47 51 52 56 57 63 64 70 71 77 78 84 85 89 90 96 97 103 104 108 109 115 116 122 123 129 130 134 135 139 140 146 147 153 154 160 161 167 168 172 173 177 178 184 185 191 192 198 199 200 201 207 208 214 215 228 229 235 236 242 243 245 246 256 257 263 264 270 271 277 278 284 285 289 290 303 304 310 311 315 316 320 321 325 326 330 331 335 336 340 341 347 348 352 353 359 360 366 367 373 374 380 381 387 388 392 393 397 398 402 403 407 408 414 415 419 420
theorem all_ok(M:Mg mg)(DM:mg "divmod"=none){CD fI fB fP:Addr}{fdI fdB fdP:FuncData}(T:CrTxt K mg CD)(MI:Mk K CD fI)(FI:Fun K "__init__" "Carrier.__init__" sCrI fI fdI)(bI:Binds K fdI ["self","problem","best","other","other_best"] [])(FB:Fun K "bring" "Carrier.bring" sCrB fB fdB)(bB:Binds K fdB ["self","line"] [])(mB:Meth K CD "bring" fB)(FP:Fun K "place_of" "Carrier.place_of" sCrP fP fdP)(bP:Binds K fdP ["self","line","row"] [])(mP:Meth K CD "place_of" fP)(J0:JTab0 w K mg aT aL fT fL)(F1:Fn K mg "_law_cell_at" Qsm)(F2:Fn K mg "_law_left" Qkj)(F3:Fn K mg "_law_mix" Qsl)(F4:Fn K mg "_law_draw" Qsn)(F5:Fn K mg "_law_problem" Vu)(F6:Fn K mg "_law_other" sOth)(F7:Fn K mg "_law_turn" Qsg)(F8:Fn K mg "_law_drawn" Qhk)(F9:Fn K mg "_law_is" sIs)(aJ:Fn K mg "_law_simple" sSim)(aX:Fn K mg "_law_summed" sSum)(aS:Fn K mg "_law_like" sLik)(a2:Fn K mg "_law_shared" sShr)(a3:Fn K mg "_law_most" sMst)(a8:Fn K mg "_law_shut_out" sSho)(am:Fn K mg "_law_shut" sSht)(bc:Fn K mg "_law_either" sEit)(a9:Fn K mg "_law_row" Qhj)(a0:Fn K mg "_law_paper" Qkp)(aA:Fn K mg "_law_moved" sMv)(aH:Fn K mg "_law_named" sNm)(ao:Fn K mg "_law_kept" sKp)(ba:Fn K mg "_law_copy" Qfq)(ap:Fn K mg "is_whole" Qbe)(an:Fn K mg "is_number_of" Qjt)(aN:Fn K mg "told_given" Qfe)(ay:Fn K mg "single_row" Qey)(az:Fn K mg "told_low" Qrt)(aM:Fn K mg "told_high" Qkc)(aP:Fn K mg "better_row" Vq)(aU:Fn K mg "told_better" Qbj)(a5:Fn K mg "is_pair" Qep)(aF:Fn K mg "is_ahead" Qbf)(aR:Fn K mg "is_part" Qeq)(aZ:Fn K mg "sum_row" Qeu)(a1:Fn K mg "told_sum" Qrx)(aD:Fn K mg "share_row" Wy)(a7:Fn K mg "told_share" Qff)(bb:Fn K mg "is_hold" Qer)(ar:Fn K mg "are_holds" Wz)(aY:Fn K mg "most_of" Qoa)(aC:Fn K mg "shut_row" Qbg)(ax:Fn K mg "told_shut" Qkd)(aW:Fn K mg "without" Qbh)(aE:Fn K mg "either_row" Vr)(aI:Fn K mg "told_either" Qab)(aV:Fn K mg "is_turn" Qcq)(au:Fn K mg "turned" Qez)(a4:Fn K mg "turn_keeps" Qcr)(aK:Fn K mg "like_row" Qbi)(aq:Fn K mg "told_like" Qke)(aO:Fn K mg "row_told" Qbk)(aG:Fn K mg "renumbered" sRen)(a6:Fn K mg "widened" sWid)(aQ:Fn K mg "carried" Qsq)(av:Fn K mg "_law_told" Qfp)(aw:Fn K mg "_law_asked" sAsk)(aB:Fun K "law" "law" sLaw f fd):FnOk P w K mg base CX0 11 f fd ["_law_script"] (Qkm K):=by
 have b:=okCell (P:=P) (w:=w) (base:=base) F1 M
 have B:=Qvr F2 M b
 have ak:=okMixB (P:=P) (w:=w) (base:=base) F3 M
 have t:=okDraw F4 M ak
 have C:=Qix F5 M b B t
 have Y:=okOth F6 M b B t
 have ad:=okTurn (P:=P) (w:=w) (base:=base) F7 M DM
 have ab:=Qvg F8 M DM ad
 have g:=okIs (P:=P) (w:=w) (base:=base) F9 M
 have R:=okSim aJ M g
 have L:=okSum aX M g
 have af:=okLik (P:=P) (w:=w) (base:=base) aS M
 have H:=okShr (P:=P) (w:=w) (base:=base) a2 M
 have aj:=okMst (P:=P) (w:=w) (base:=base) a3 M
 have x:=okSho (P:=P) (w:=w) (base:=base) a8 M
 have ai:=okSht am M g aj x
 have V:=okEit (P:=P) (w:=w) (base:=base) bc M
 have k:=Qvf a9 M R L af g H ai V
 have W:=Qvw a0 M ab k
 have Z:=okMv (P:=P) (w:=w) (base:=base) aA M
 have X:=okNm (P:=P) (w:=w) (base:=base) aH M
 have ae:=okKp ao M k X
 have ah:=Qsx (P:=P) (w:=w) (base:=base) ba M
 have c:=Qnx (P:=P) (w:=w) (base:=base) ap M
 have a:=Quy an M c
 have r:=Qrv aN M a
 have e:=Qro (P:=P) (w:=w) (base:=base) ay M
 have D:=okTLow az M a e
 have u:=Qva aM M a e
 have p:=Qil (P:=P) (w:=w) (base:=base) aP M
 have m:=Qoq aU M c p
 have j:=Qrg (P:=P) (w:=w) (base:=base) a5 M
 have d:=Qnz aF M a
 have U:=Qri aR M j d c
 have O:=Qrn (P:=P) (w:=w) (base:=base) aZ M
 have F:=okTSum a1 M U O
 have z:=Qlq (P:=P) (w:=w) (base:=base) aD M
 have s:=Qrw a7 M d c z
 have N:=Qrk bb M j a
 have A:=Qls ar M N
 have Q:=okMost (P:=P) (w:=w) (base:=base) aY M
 have E:=Qog (P:=P) (w:=w) (base:=base) aC M
 have y:=Qvb ax M d A Q E
 have i:=Qoi (P:=P) (w:=w) (base:=base) aW M
 have q:=Qin aE M i
 have l:=Qor aI M d a i q
 have J:=Qrq aV M a
 have aa:=Qrr (P:=P) (w:=w) (base:=base) au M
 have n:=Qrs a4 M aa
 have G:=Qoj (P:=P) (w:=w) (base:=base) aK M
 have v:=Qvc aq M J n G
 have h:=Qot aO M (Qsa (P:=P) (base:=base) J0 r D u m F s y l v)
 have o:=okRen (P:=P) (w:=w) (base:=base) aG M
 have S:=okWid (P:=P) (w:=w) (base:=base) a6 M
 have I:=okCarr aQ M T MI (okCrI (P:=P) (w:=w) (base:=base) FI M T) bI (okCrB (P:=P) (w:=w) (base:=base) FB M T (okCrP (P:=P) (w:=w) (base:=base) FP M T h o) bP mP h S) bB mB
 have ag:=Qsv av M k
 have ac:=okAsk aw M ah I ag g
 have al:=okLaw aB M C b Y W Z ae ac
 exact al
theorem walk{l:PySem.W.OpenLaw}{q:Program}{XP:Z9->Heap->Prop}{YP:World->Heap->Prop}{d:DefRec}{K:Params->Fg}(i:l.most=some 63)(b:d.params.defaults=[])
  (m:∀(w:World) (h:Heap),YP w h->(K w.params).In h)
  (F:∀(w:World) (mg:Z9) (fa:Addr) (h:Heap),(K w.params).In h->h.Ns mainGlobals mg->mg d.name=some (.ref fa) ->
   ∃fd:FuncData,(∀(s:Shared) (u:Value),BindsTo s fd ⟨[u],[]⟩ [("_law_script",u)])/\∀base:Heap,(K w.params).In base->base.Ns mainGlobals mg->FnOk l.prog w (K w.params) mg base CX0 11 fa fd ["_law_script"] (Qkm (K w.params))) :
  PySem.W.WalkO q loose XP YP l.row.toRowW d [] (fun f vs=>PySem.call f vs) :=
 L2.Qqy (n:=63) (k:=11) (x:="_law_script") (CX:=fun _=>CX0) (sp:=fun w=>Qkm (K w.params)) i Dc b ⟨rfl,Dc,Dc⟩ m F (fun _ _ a c e j g=>⟨a,c,rfl,g,e,j,fun _=>rfl⟩) fun _ _ _ _ _ z=>z
end Nb
def Nb.pwv:PySem.Program:={ PySem.Challenge.pw_nonebetter_k71_whole_papers_carried_over with main:={ PySem.Challenge.pw_nonebetter_k71_whole_papers_carried_over.main with body:=[Nb.htop 0,Nb.htop 1,Nb.htop 2,Nb.htop 3,Nb.htop 4,Nb.htop 5,Nb.htop 6,Nb.htop 7,Nb.htop 8,Nb.htop 9,Nb.htop 10,Nb.htop 11,Nb.htop 12,Nb.htop 13,Nb.htop 14,Nb.htop 15,Nb.htop 16,Nb.htop 17,Nb.htop 18,Nb.htop 19,Nb.htop 20,Nb.htop 21,Nb.htop 22,Nb.htop 23,Nb.htop 24,Nb.htop 25,Nb.htop 26,Nb.htop 27,Nb.htop 28,Nb.htop 29,Nb.htop 30,Nb.htop 31,Nb.htop 32,Nb.htop 33,Nb.htop 34,Nb.htop 35,Nb.htop 36,Nb.htop 37,Nb.htop 38,Nb.htop 39,Nb.htop 40,Nb.htop 41,Nb.htop 42,Nb.htop 43,Nb.htop 44,Nb.htop 45,Nb.htop 46,Nb.htop 47,Nb.htop 48,Nb.htop 49,Nb.htop 50,Nb.htop 51,Nb.htop 52,Nb.htop 53,Nb.htop 54,Nb.htop 55,Nb.htop 56,Nb.htop 57,Nb.htop 58,Nb.htop 59,Nb.htop 60,Nb.htop 61,Nb.htop 62,Nb.htop 63,Nb.htop 64,Nb.htop 65,Nb.htop 66,Nb.htop 67] } }
def PySem.W.Fast.tw1653918685017820470:Nat->PySem.Params->PySem.Obj:=Nb.hob
theorem PySem.W.Fast.te1653918685017820470:Nb.hob=PySem.W.Fast.tw1653918685017820470:=rfl
def PySem.W.Fast.tw9907716430037099176:PySem.Program:=PySem.Challenge.pw_nonebetter_k71_whole_papers_carried_over
theorem PySem.W.Fast.te9907716430037099176:PySem.Challenge.pw_nonebetter_k71_whole_papers_carried_over=PySem.W.Fast.tw9907716430037099176:=rfl
def PySem.W.Fast.tw9401860820342270615:PySem.Program:=Nb.pwv
theorem PySem.W.Fast.te9401860820342270615:Nb.pwv=PySem.W.Fast.tw9401860820342270615:=rfl
def PySem.W.Fast.tw11570947652754012800:Nat->PySem.Stmt:=Nb.htop
theorem PySem.W.Fast.te11570947652754012800:Nb.htop=PySem.W.Fast.tw11570947652754012800:=rfl
namespace PySem.W.Fast
noncomputable def tw13088394536362299785:=0
noncomputable def tw505386948301189372:=0
noncomputable def tw657809511379644488:=0
noncomputable def tw12775804887025370582:=0
noncomputable def tw754318366690718360:=0
noncomputable def tw6174537007040013522:=0
noncomputable def tw9918097423632483581:=0
noncomputable def tw5823080855204322496:=0
noncomputable def tw17655264520494603339:=0
noncomputable def tw15661741632779618040:=0
noncomputable def tw17815497944314995072:=0
noncomputable def tw17441748227570369844:=0
noncomputable def tw11219013745268064937:=0
noncomputable def tw14895508546279443802:=0
noncomputable def tw13177699134978481266:=0
noncomputable def tw13979628567901981877:=0
noncomputable def tw6391269894071823465:=0
noncomputable def tw6193960206480039726:=0
noncomputable def tw10316386979135215161:=0
noncomputable def tw6493899702831973433:=0
noncomputable def tw3214001300171140641:=0
noncomputable def tw2956978439653071283:=0
noncomputable def tw1076585849273810659:=0
noncomputable def tw6815890153963880895:=0
noncomputable def tw8969290487272321579:=0
noncomputable def tw18352662531018601576:=0
noncomputable def tw17459545816000091509:=0
noncomputable def tw1127635572676575962:=0
noncomputable def tw10961352521897402947:=0
noncomputable def tw10102607361804369628:=0
noncomputable def tw18185813018328839035:=0
noncomputable def tw7253663778072418083:=0
noncomputable def tw15286927184215257315:=0
noncomputable def tw15675702207207632428:=0
noncomputable def tw6756154958016317762:=0
noncomputable def tw3067376120355297076:=0
noncomputable def tw7730798783025850049:=0
noncomputable def tw6859147647087348409:=0
noncomputable def tw2047119891246913293:=0
noncomputable def tw1196540252994850073:=0
noncomputable def tw16038036595692608125:=0
noncomputable def tw17861353987584841322:=0
noncomputable def tw5814275917460059628:=0
noncomputable def tw13639472212769398525:=0
noncomputable def tw6139698905324813649:=0
noncomputable def tw5558375560594575257:=0
noncomputable def tw6370615934464943457:=0
noncomputable def tw4245419616218457305:=0
noncomputable def tw14538021675087600324:=0
noncomputable def tw15753241874589238244:=0
noncomputable def tw8566174439258442743:=0
noncomputable def tw8042229771105189466:=0
noncomputable def tw15331457390098269295:=0
noncomputable def tw17212968296908828378:=0
noncomputable def tw12887500646601889922:=0
noncomputable def tw5584656399853518777:=0
noncomputable def tw7168688878887355943:=0
noncomputable def tw6315073046947218848:=0
noncomputable def tw7733621325700376079:=0
noncomputable def tw3075770405909670305:=0
noncomputable def tw7652301456054640576:=0
noncomputable def tw14132685039268855579:=0
noncomputable def tw15745093389067526175:=0
noncomputable def tw1033101245117724147:=0
noncomputable def tw5410919458996130528:=0
noncomputable def tw15272532727479154807:=0
noncomputable def tw7728500699423600316:=0
noncomputable def tw17814245332312014482:=0
noncomputable def tw18317632983357509492:=0
noncomputable def tw18337241448744764134:=0
noncomputable def tw10537487365463404875:=0
noncomputable def tw6336138876855077426:=0
noncomputable def tw12395059896801741958:=0
noncomputable def tw14164253493811393041:=0
noncomputable def tw16830615920448792191:=0
noncomputable def tw7968917115452013953:=0
noncomputable def tw6358632455766352718:=0
noncomputable def tw11704413762124341352:=0
noncomputable def tw15909922775687885183:=0
noncomputable def tw11444384773608061403:=0
noncomputable def tw2512700474646850478:=0
noncomputable def tw14541769197438763118:=0
noncomputable def tw5245062816714132162:=0
noncomputable def tw8682400935781399162:=0
noncomputable def tw3241647346122143339:=0
noncomputable def tw12704921490485345627:=0
noncomputable def tw2712751738799326379:=0
noncomputable def tw9608566343743228423:=0
noncomputable def tw16228657892893297332:=0
noncomputable def tw5665260076112104239:=0
noncomputable def tw16564866215777169584:=0
noncomputable def tw4988558427374077475:=0
noncomputable def tw11329468559262698134:=0
noncomputable def tw9629582955582356804:=0
noncomputable def tw3182711169163054166:=0
noncomputable def tw12146640702800835194:=0
noncomputable def tw9353323709965671644:=0
noncomputable def tw17820163498768846780:=0
noncomputable def tw11322580022008681402:=0
noncomputable def tw10554336875138386803:=0
noncomputable def tw10014745680511589359:=0
noncomputable def tw10284664020723673445:=0
noncomputable def tw14942884834457244099:=0
noncomputable def tw10037619217581499363:=0
noncomputable def tw6133281466014707418:=0
noncomputable def tw8347265723503088517:=0
noncomputable def tw10795423242007337661:=0
noncomputable def tw8306150975491513914:=0
noncomputable def tw18243838871177669893:=0
noncomputable def tw16398869408942960412:=0
noncomputable def tw2124914412451445960:=0
noncomputable def tw11321358696982752122:=0
noncomputable def tw9689215586033539199:=0
noncomputable def tw13078837649886749743:=0
noncomputable def tw6585288630251704387:=0
noncomputable def tw13953099052655785504:=0
noncomputable def tw8504915871686814025:=0
noncomputable def tw1158990509211227039:=0
noncomputable def tw5278471571282588258:=0
noncomputable def tw9512427107546757492:=0
noncomputable def tw18369990574558696845:=0
noncomputable def tw9914554105799625744:=0
noncomputable def tw1985420288909681396:=0
noncomputable def tw3262001912110914329:=0
noncomputable def tw6154307425620954325:=0
noncomputable def tw7284363370934943599:=0
noncomputable def tw3328900226784007379:=0
noncomputable def tw7171747433744704074:=0
noncomputable def tw10034641444350376576:=0
noncomputable def tw7222821175252998207:=0
noncomputable def tw10149438827391190766:=0
noncomputable def tw8685858555482778713:=0
noncomputable def tw11009963128608928309:=0
noncomputable def tw5344348952924603377:=0
noncomputable def tw5696882161151283956:=0
noncomputable def tw5363063713409573625:=0
noncomputable def tw10138271676595899167:=0
noncomputable def tw13163081873316857741:=0
noncomputable def tw10977397976732435172:=0
noncomputable def tw8649118360096187096:=0
noncomputable def tw8961899392808347044:=0
noncomputable def tw13267511782756211354:=0
noncomputable def tw6229736552793400636:=0
noncomputable def tw4992563689468871725:=0
noncomputable def tw10029822690786043517:=0
noncomputable def tw1476099131681547808:=0
noncomputable def tw8099911922938472025:=0
noncomputable def tw5862216444188185935:=0
noncomputable def tw5994630604138782832:=0
noncomputable def tw9785723256837291732:=0
noncomputable def tw4865637104277232991:=0
noncomputable def tw6345198864772138098:=0
noncomputable def tw14424972945379995252:=0
noncomputable def tw17708699962539955330:=0
noncomputable def tw11150079691794793040:=0
noncomputable def tw9563141407480537606:=0
noncomputable def tw7672790951759381684:=0
noncomputable def tw13460731821050304371:=0
noncomputable def tw14728332721801099896:=0
noncomputable def tw13721110562800989647:=0
noncomputable def tw4595623673902618952:=0
noncomputable def tw6951319979671661633:=0
noncomputable def tw225302309255314571:=0
noncomputable def tw8492237741466944924:=0
noncomputable def tw6912284720931337159:=0
noncomputable def tw4634006060491749726:=0
noncomputable def tw17655209963818127620:=0
noncomputable def tw9122387607082537550:=0
noncomputable def tw8075665533591699609:=0
noncomputable def tw17780478987143977530:=0
noncomputable def tw208664727318316624:=0
noncomputable def tw5095905891091827099:=0
noncomputable def tw3373566280962111572:=0
noncomputable def tw10391873347026091318:=0
noncomputable def tw11800386092215620844:=0
noncomputable def tw3899698467078151189:=0
noncomputable def tw7313204271186139639:=0
noncomputable def tw10667677346225577979:=0
noncomputable def tw13026954079692676183:=0
noncomputable def tw3426538703306302349:=0
noncomputable def tw12267308481385787804:=0
noncomputable def tw10794880850053461624:=0
noncomputable def tw2898761857213312718:=0
noncomputable def tw68123340797688449:=0
noncomputable def tw15948851668568878120:=0
noncomputable def tw15209473789937401706:=0
noncomputable def tw5340155022203331428:=0
noncomputable def tw12637026603554179044:=0
noncomputable def tw4561742333372414626:=0
noncomputable def tw14270239363969640948:=0
noncomputable def tw9979481301407113687:=0
noncomputable def tw17983970168351969114:=0
noncomputable def tw1213568964699364584:=0
noncomputable def tw3692789381032439699:=0
noncomputable def tw10734723910327008486:=0
noncomputable def tw8103608893153514873:=0
noncomputable def tw4061150252569643118:=0
noncomputable def tw25339828436230964:=0
noncomputable def tw6741991584416929606:=0
noncomputable def tw13450034528485287080:=0
noncomputable def tw2738214884762394333:=0
noncomputable def tw16446711551271319481:=0
noncomputable def tw3700146454829819095:=0
noncomputable def tw9816059799689610906:=0
noncomputable def tw13713675568959373582:=0
noncomputable def tw13198010972570555906:=0
noncomputable def tw8526641043916496989:=0
noncomputable def tw197093421688620296:=0
noncomputable def tw4050608567915882138:=0
noncomputable def tw17043885011595506299:=0
noncomputable def tw9714146169627571026:=0
noncomputable def tw13392671020795373935:=0
noncomputable def tw2632026058138457950:=0
noncomputable def tw2376506346490648654:=0
noncomputable def tw16214566446275582900:=0
noncomputable def tw12031234249871520123:=0
noncomputable def tw17057406403665475692:=0
noncomputable def tw16380083269266114131:=0
noncomputable def tw5709957477344114530:=0
noncomputable def tw2307947096236766138:=0
noncomputable def tw17156560116451855026:=0
noncomputable def tw253857481255644404:=0
noncomputable def tw17715792163819517122:=0
noncomputable def tw9845254607782921464:=0
noncomputable def tw11640472018115485889:=0
noncomputable def tw6138997592906497791:=0
noncomputable def tw14593615072543866274:=0
noncomputable def tw11745041217442115991:=0
noncomputable def tw1499808939446421631:=0
noncomputable def tw4124067817551325991:=0
noncomputable def tw17362728799461888391:=0
noncomputable def tw18152742807094009133:=0
noncomputable def tw9637300243130004306:=0
noncomputable def tw48361416568102699:=0
noncomputable def tw16765808284000763306:=0
noncomputable def tw8794800990054027782:=0
noncomputable def tw9383630600409122308:=0
noncomputable def tw2036457175290261212:=0
noncomputable def tw3923570657728240414:=0
noncomputable def tw3510926403462025404:=0
noncomputable def tw6261348112099052734:=0
noncomputable def tw9993254964400123643:=0
noncomputable def tw5510264924762853680:=0
noncomputable def tw11594024691281421401:=0
noncomputable def tw4915678275045411015:=0
noncomputable def tw12972040378298721719:=0
noncomputable def tw4180609898748763608:=0
noncomputable def tw12473640073248742913:=0
noncomputable def tw15840748592545015289:=0
noncomputable def tw7723693309787600719:=0
noncomputable def tw17401504272247938616:=0
noncomputable def tw8111273002539683333:=0
noncomputable def tw17665297793655678634:=0
noncomputable def tw13437634363222500437:=0
noncomputable def tw3266325749028652917:=0
noncomputable def tw1143709315197097637:=0
noncomputable def tw13763069259708386431:=0
noncomputable def tw9846451030902797427:=0
noncomputable def tw2568810510702008158:=0
noncomputable def tw15073835447566781562:=0
noncomputable def tw11830334829686861949:=0
noncomputable def tw5362338027682592088:=0
noncomputable def tw17431801929449496923:=0
noncomputable def tw5054050643727173329:=0
noncomputable def tw15266167329535628401:=0
noncomputable def tw2474413682219319054:=0
noncomputable def tw14893265987336620813:=0
noncomputable def tw10968842599855271825:=0
noncomputable def tw901899972833021313:=0
noncomputable def tw71989858280827787:=0
noncomputable def tw3278319622364215755:=0
noncomputable def tw16403653116343345338:=0
noncomputable def tw7676061520089494254:=0
noncomputable def tw701890863106965171:=0
noncomputable def tw1031552821029794959:=0
noncomputable def tw16407868241965104966:=0
noncomputable def tw9525336389126856028:=0
noncomputable def tw10609982729739980523:=0
noncomputable def tw10929566759731725312:=0
noncomputable def tw14569660416652696942:=0
noncomputable def tw4210957692081320457:=0
noncomputable def tw5880701087568622170:=0
noncomputable def tw7292605581048346524:=0
noncomputable def tw446187600566923100:=0
noncomputable def tw1136444842172956155:=0
noncomputable def tw2189091771323817667:=0
noncomputable def tw2517051510881564179:=0
noncomputable def tw6612595202994989842:=0
noncomputable def tw15704559169657000419:=0
noncomputable def tw11334930248338268782:=0
noncomputable def tw7340438867758700463:=0
noncomputable def tw16902969999029331466:=0
noncomputable def tw4567368958976292843:=0
noncomputable def tw13708560874890516206:=0
noncomputable def tw16456595829884571041:=0
noncomputable def tw14829801378652985048:=0
noncomputable def tw1899621501159454257:=0
noncomputable def tw2808997847686811614:=0
noncomputable def tw8968002491041550903:=0
noncomputable def tw15544654386478273412:=0
noncomputable def tw5818757814553771346:=0
noncomputable def tw13990771947195308347:=0
noncomputable def tw12946996382950800067:=0
noncomputable def tw13664467679619910414:=0
noncomputable def tw1280447530929702939:=0
noncomputable def tw16223797742883057648:=0
noncomputable def tw4758484977815715175:=0
noncomputable def tw7317827282137743358:=0
noncomputable def tw10965593805598237849:=0
noncomputable def tw16318135819338300967:=0
noncomputable def tw12141975691723588364:=0
noncomputable def tw13816233370468439638:=0
noncomputable def tw2734544692120692627:=0
noncomputable def tw17995925257798788584:=0
noncomputable def tw5728802992844159812:=0
noncomputable def tw1603186918366680309:=0
noncomputable def tw9562526823209742144:=0
noncomputable def tw11285822116134437170:=0
noncomputable def tw1877870509916764107:=0
noncomputable def tw7032966214470537650:=0
noncomputable def tw15735995565209742410:=0
noncomputable def tw14899776425088835857:=0
noncomputable def tw3890597038720881287:=0
noncomputable def tw9917351530117747501:=0
noncomputable def tw13926903528785033818:=0
noncomputable def tw2230695283317885206:=0
noncomputable def tw14343696847003859574:=0
noncomputable def tw11494533791746437073:=0
noncomputable def tw3505880799935616477:=0
noncomputable def tw15146839058659011725:=0
noncomputable def tw11054335064928528202:=0
noncomputable def tw15130553036446368597:=0
noncomputable def tw6516285636448600686:=0
noncomputable def tw10304020295674115402:=0
noncomputable def tw14327503254668850998:=0
noncomputable def tw13486259327972334666:=0
noncomputable def tw16885555988728195620:=0
noncomputable def tw1698081458809804300:=0
noncomputable def tw9925475830930358943:=0
noncomputable def tw17280080648962539655:=0
noncomputable def tw4604683139053688435:=0
noncomputable def tw11933320386184731223:=0
noncomputable def tw4581926314058669298:=0
noncomputable def tw1608346899357370253:=0
noncomputable def tw2199088022177052788:=0
noncomputable def tw14426892118166519857:=0
noncomputable def tw16007026064178390362:=0
noncomputable def tw2725348545927146590:=0
noncomputable def tw4836443848346962543:=0
noncomputable def tw10457909898567937990:=0
noncomputable def tw8452459550793924969:=0
noncomputable def tw7696793869734315907:=0
noncomputable def tw9757063202918549018:=0
noncomputable def tw14484706219612815403:=0
noncomputable def tw3999560609585935971:=0
noncomputable def tw295780818769868643:=0
noncomputable def tw12768769418403637037:=0
noncomputable def tw1249205907549393952:=0
noncomputable def tw7226116094117437402:=0
noncomputable def tw16815420701204657765:=0
noncomputable def tw13389159078520299268:=0
noncomputable def tw13895888986525551320:=0
noncomputable def tw11832330368795500768:=0
end PySem.W.Fast
end
local macro_rules|`(term|q2 $a:num)=>`(term|(nat_lit $a)::[])|`(term|q2 $a:num $b*)=>`(term|(nat_lit $a)::q2 $b*)
local macro_rules|`(term|q6 $k $m $a $b)=>`(term|L2.Fn (L2.KOf $k) $m $a $b)|`(term|q6 $k $m $a $b $c*)=>`(term|L2.Fn (L2.KOf $k) $m $a $b/\q6 $k $m $c*)
open PySem PySem.W PyProof.Rows
set_option maxRecDepth 100000 in
set_option maxHeartbeats 0 in
theorem PySem.Challenge.cw_nonebetter_k71_whole_papers_carried_over_holds : PySem.Challenge.rw_nonebetter_k71_whole_papers_carried_over.Holds := by
 w_on;o_law;show PySem.W.OpenRow.Holds { PySem.Challenge.rw_nonebetter_k71_whole_papers_carried_over.row with prog:=Nb.pwv };o_head (PySem.W.kHook Nb.heapK (q2 3 20 21 27 28 34 35 41 42 46 47 51 52 56 57 63 64 70 71 77 78 84 85 89 90 96 97 103 104 108 109 115 116 122 123 129 130 134 135 139 140 146 147 153 154 160 161 167 168 172 173 177 178 184 185 191 192 198 199 200 201 207 208 214 215 228 229 235 236 242 243 245 246 256 257 263 264 270 271 277 278 284 285 289 290 303 304 310 311 315 316 320 321 325 326 330 331 335 336 340 341 347 348 352 353 359 360 366 367 373 374 380 381 387 388 392 393 397 398 402 403 407 408 414 415 419 420) (fun _=>by kernel_rfl));(case hw=>w_witness2)
 k_fill
 refine Nb.walk (l:=PySem.Challenge.rw_nonebetter_k71_whole_papers_carried_over) rfl rfl (fun w h Y=>PySem.W.kIn_of Y) ?F
 case F=>
  intro w mg fa h KX G hmg
  obtain⟨F1,F2,F3,F4,F5,F6,F7,F8,F9,F10,F11,F12,F13,F14,F15,F16,F17,F18,F19,F20,F21,F22,F23,F24,F25,F26,F27,F28,F29,F30,F31,F32,F33,F34,F35,F36,F37,F38,F39,F40,F41,F42,F43,F44,F45,F46,F47,F48,F49,F50,F51,F52,F53,F54,F55,F56,F57,F58⟩:q6 KX mg "_law_cell_at" Nb.Qsm "_law_left" Nb.Qkj "_law_mix" Nb.Qsl "_law_draw" Nb.Qsn "_law_problem" Nb.Vu "_law_other" Nb.sOth "_law_turn" Nb.Qsg "_law_drawn" Nb.Qhk "_law_is" Nb.sIs "_law_simple" Nb.sSim "_law_summed" Nb.sSum "_law_like" Nb.sLik "_law_shared" Nb.sShr "_law_most" Nb.sMst "_law_shut_out" Nb.sSho "_law_shut" Nb.sSht "_law_either" Nb.sEit "_law_row" Nb.Qhj "_law_paper" Nb.Qkp "_law_moved" Nb.sMv "_law_named" Nb.sNm "_law_kept" Nb.sKp "_law_copy" Nb.Qfq "is_whole" Nb.Qbe "is_number_of" Nb.Qjt "told_given" Nb.Qfe "single_row" Nb.Qey "told_low" Nb.Qrt "told_high" Nb.Qkc "better_row" Nb.Vq "told_better" Nb.Qbj "is_pair" Nb.Qep "is_ahead" Nb.Qbf "is_part" Nb.Qeq "sum_row" Nb.Qeu "told_sum" Nb.Qrx "share_row" Nb.Wy "told_share" Nb.Qff "is_hold" Nb.Qer "are_holds" Nb.Wz "most_of" Nb.Qoa "shut_row" Nb.Qbg "told_shut" Nb.Qkd "without" Nb.Qbh "either_row" Nb.Vr "told_either" Nb.Qab "is_turn" Nb.Qcq "turned" Nb.Qez "turn_keeps" Nb.Qcr "like_row" Nb.Qbi "told_like" Nb.Qke "row_told" Nb.Qbk "renumbered" Nb.sRen "widened" Nb.sWid "carried" Nb.Qsq "_law_told" Nb.Qfp "_law_asked" Nb.sAsk "law" Nb.sLaw:=by
   dsimp only[L2.KOf]
   and_intros<;>(refine' L2.Xs KX G ?a ?l ?c ?k;case a | l | c | k=>k_is)
  have M:Nb.Mg mg:=by constructor<;>(refine PySem.W.mg_none_of KX G ?_;k_is)
  have DM:mg "divmod"=none:=by
   refine' PySem.W.mg_none_of KX G ?m
   (case m=>k_is)
  have CL:∃(CD fI fB fP:Addr) (fdI fdB fdP:FuncData),Nb.CrTxt (L2.KOf KX) mg CD/\L2.Mk (L2.KOf KX) CD fI/\L2.Fun (L2.KOf KX) "__init__" "Carrier.__init__" Nb.sCrI fI fdI/\L2.Fun (L2.KOf KX) "bring" "Carrier.bring" Nb.sCrB fB fdB/\L2.Meth (L2.KOf KX) CD "bring" fB/\L2.Fun (L2.KOf KX) "place_of" "Carrier.place_of" Nb.sCrP fP fdP/\L2.Meth (L2.KOf KX) CD "place_of" fP:=by
   dsimp only[L2.KOf]
   refine' ⟨_,_,_,_,_,_,_,⟨⟨?pg,?hd,?po,?sa⟩,Nb.na_all ?n0 ?n1 ?n2 ?n3 ?n4 ?n5 ?n6 ?n7 ?n8 ?n9 ?n10,PySem.W.mg_of KX G ?aC⟩,⟨?mk,?a1,?i1,?kc⟩,L2.Qjd (st:=Nb.sCrI) ?l1 ?c1 ?k1,L2.Qjd (st:=Nb.sCrB) ?l2 ?c2 ?k2,⟨?a2,?i2,?m2⟩,L2.Qjd (st:=Nb.sCrP) ?l3 ?c3 ?k3,⟨?a3,?i3,?m3⟩⟩
   (case aC | a1 | i1 | l1 | c1 | k1 | a2 | i2 | l2 | c2 | k2 | m2 | a3 | i3 | l3 | c3 | k3 | m3 | pg | hd | po | sa | mk | kc=>k_is)
   (case n0 | n1 | n2 | n3 | n4 | n5 | n6 | n7 | n8 | n9 | n10=>unfold L2.NoAttr;k_is)
  obtain⟨CD,fI,fB,fP,fdI,fdB,fdP,T,MI,FI,FB,mB,FP,mP⟩:=CL
  have bI:=FI.binds (ps:=["self","problem","best","other","other_best"])
  have bB:=FB.binds (ps:=["self","line"])
  have bP:=FP.binds (ps:=["self","line","row"])
  have J0:∃aT aL fT fL,Nb.JTab0 w (L2.KOf KX) mg aT aL fT fL:=by
   dsimp only[L2.KOf]
   refine' ⟨_,_,_,_,Nb.jtab0 (PySem.W.mg_of KX G ?b1) ?l1 ?k1 ?o1 ?e1 (PySem.W.mg_of KX G ?b2) ?l2 ?k2 ?o2 ?e2 (PySem.W.mg_of KX G ?n1) (PySem.W.mg_of KX G ?n2) (PySem.W.mg_of KX G ?n3) (PySem.W.mg_of KX G ?n4) (PySem.W.mg_of KX G ?n5) (PySem.W.mg_of KX G ?n6) (PySem.W.mg_of KX G ?n7) (PySem.W.mg_of KX G ?n8) (PySem.W.mg_of KX G ?n9)⟩
   (case b1 | l1=>k_is);(case k1=>k_keys);(case o1=>decide);(case e1=>exact rfl)
   (case b2 | l2=>k_is);(case k2=>k_keys);(case o2=>decide);(case e2=>exact rfl)
   (case n1 | n2 | n3 | n4 | n5 | n6 | n7 | n8 | n9=>k_is)
  obtain⟨aT,aL,fT,fL,J0⟩:=J0
  obtain⟨f,fd,FF,hm⟩:=F58
  have e0:=hmg.symm.trans hm
  cases e0
  refine' ⟨fd,?b,fun base kb nb=>Nb.all_ok M DM T MI FI bI FB bB mB FP bP mP J0 F1 F2 F3 F4 F5 F6 F7 F8 F9 F10 F11 F12 F13 F14 F15 F16 F17 F18 F19 F20 F21 F22 F23 F24 F25 F26 F27 F28 F29 F30 F31 F32 F33 F34 F35 F36 F37 F38 F39 F40 F41 F42 F43 F44 F45 F46 F47 F48 F49 F50 F51 F52 F53 F54 F55 F56 F57 FF⟩
  obtain⟨oc,od,kV,doc,pm,an,cdv,ct,osl,rfl,lk,hcd⟩:=FF.ex
  exact fun s u=>.of_eq rfl

