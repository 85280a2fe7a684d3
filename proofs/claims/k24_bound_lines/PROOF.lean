import PyProof.Rows.All
import Wide.All
import OpenK.AllK
import Wide.FinOn
import Lean
import PyProof.EqAt
import PyProof.EqKinds
import PyProof.TupleCall
import KE.KDictOf
import KE.KRevIter
import KE.KTryDeep
import KE.KIsAll
import KE.KMinKey
import KE.KSortTup
import OpenK.KTop
import KE.KEqDict
import KE.KPairComp
import KE.KDictSum
import PyProof.Rows.SortStr
import PyProof.NeKinds
import PyProof.Rows.SortShellK
import KE.KDictList
import PyProof.FString5
import KE.KIntText
import PyProof.StrLawsNeg
import KE.KUnpack
import PyProof.Rows.TupTab
import KE.KRevSl
import PySem.Challenge.RW_nonebetter_k24_lines_of_bounds
noncomputable section
abbrev Fg := PySem.W.Frag
section
open PySem PySem.Spec PySem.W PyProof.Rows
abbrev jQ := @List.length_map
abbrev jX := @wpAny_bind
abbrev jY := @Nat.le_refl
abbrev jZ := @List.getD_eq_getElem?_getD
abbrev jJ := @List.getElem?_map
abbrev jK := @Heap.get?_push_of_some
abbrev jV := @List.length_range
abbrev jW := @List.getElem?_eq_some_iff
abbrev kQ := @List.mem_cons
abbrev kX := @List.size_toArray
abbrev kY := @List.mem_map
abbrev kZ := @List.length_append
abbrev kJ := @List.nodup_cons
abbrev kK := @of_decide_eq_true
abbrev kW := @decide_eq_true
abbrev yQ := @List.mem_of_getElem?
abbrev yX := @List.map_cons
abbrev yY := @Heap.lt_size
abbrev yZ := @List.mem_cons_of_mem
abbrev yJ := @Heap.get?_push_size
abbrev yK := @List.map_append
abbrev yV := @List.mem_cons_self
abbrev yW := @List.mem_singleton
abbrev zQ := @Nat.lt_of_le_of_lt
abbrev zX := @wpAny_pure
abbrev zY := @List.mem_append
abbrev zZ := @Nat.add_le_add_left
abbrev zJ := @Nat.ne_of_lt
abbrev zK := @Int.toNat_natCast
abbrev zV := @Int.mul_zero
abbrev zW := @Bool.false_ne_true
abbrev xQ := @List.length_cons
abbrev xX := @List.mem_range
abbrev xY := @Nat.lt_of_lt_of_le
abbrev xZ := @List.map_congr_left
abbrev xJ := @List.length_take
abbrev xK := @Nat.not_lt_zero
abbrev xV := @Option.map_eq_some_iff
abbrev xW := @List.map_map
abbrev wQ := @Int.zero_mul
abbrev wX := @Int.mul_comm
abbrev wY := @List.take_length
abbrev wZ := @List.getElem?_append_right
abbrev wJ := @Int.add_zero
abbrev wK := @List.mem_append_right
abbrev wV := @List.mem_nil_iff
abbrev wW := @Nat.lt_irrefl
abbrev jQa := @Int.one_mul
abbrev jQb := @Nat.le_trans
abbrev jQc := @Nat.zero_le
abbrev jQd := @List.getElem?_eq_none_iff
abbrev jQe := @decide_eq_false
abbrev jQf := @List.getElem_mem
abbrev jXa := @List.getElem?_range
abbrev jXb := @Int.mul_eq_zero
abbrev jXc := @List.take_of_length_le
abbrev jXd := @Int.mul_le_mul_of_nonneg_right
abbrev jXe := @List.length_filter_le
abbrev jXf := @Int.mul_nonneg
abbrev jYa := @List.mem_filter
abbrev jYb := @List.map_nil
abbrev jYc := @Int.emod_nonneg
abbrev jYd := @Int.emod_lt_of_pos
abbrev jYe := @Int.le_refl
abbrev jYf := @List.replicate_succ
abbrev jZa := @List.getElem?_append_left
abbrev jZb := @List.not_mem_nil
abbrev jZc := @List.lookup_cons
abbrev jZd := @Bool.and_eq_true
abbrev jZe := @Int.zero_add
abbrev jZf := @Int.nonneg_of_mul_nonneg_left
abbrev jJa := @Heap.size_push
abbrev jJb := @List.range_succ
abbrev jJc := @List.sum_cons
abbrev jJd := @Nat.lt_succ_self
abbrev jJe := @List.all_eq_true
abbrev jJf := @List.getElem_map
abbrev jKa := @List.pairwise_iff_getElem
abbrev jKb := @List.find?_cons
abbrev jKc := @Nat.lt_succ_of_lt
abbrev jKd := @List.nodup_nil
abbrev jKe := @Int.mul_one
abbrev jKf := @List.eq_nil_of_length_eq_zero
abbrev kQa := @Bool.eq_iff_iff
abbrev kQb := @List.foldl_cons
abbrev kQc := @List.length_replicate
abbrev kQd := @List.getElem?_eq_none
abbrev kQe := @List.mem_iff_getElem?
abbrev kQf := @List.flatten_cons
abbrev kXa := @List.nodup_append
abbrev kXb := @Array.length_toList
abbrev kXc := @Option.some_ne_none
abbrev kXd := @Option.isSome_iff_exists
abbrev kXe := @List.getElem_range
abbrev kXf := @Int.neg_mul
abbrev kYa := @List.filter_cons_of_pos
abbrev kYb := @List.filter_cons_of_neg
abbrev kYc := @Int.sub_self
abbrev kYd := @Nat.le_add_right
abbrev kYe := @List.ext_getElem
abbrev kYf := @Int.mul_assoc
abbrev kZa := @List.mem_append_left
abbrev kZb := @List.mem_of_mem_take
abbrev kZc := @List.sum_append
abbrev kZd := @List.getElem_of_mem
abbrev kZe := @List.length_zipWith
abbrev kZf := @Nat.sub_self
abbrev kJa := @Bool.false_eq_true
abbrev kJb := @List.take_succ
abbrev kJc := @Int.eq_of_mul_eq_mul_left
abbrev kJd := @List.ext_getElem?
abbrev kJe := @List.foldl_append
abbrev kJf := @List.map_id
abbrev kKa := @Nat.le_of_not_lt
abbrev kKb := @List.getElem?_replicate
abbrev kKc := @List.pairwise_singleton
abbrev kKd := @Nat.lt_trans
abbrev kKe := @Int.natCast_add
abbrev kKf := @List.append_nil
abbrev yQa := @Bool.or_eq_true
abbrev yQb := @Option.map_some
abbrev yQc := @List.take_append_drop
abbrev yQd := @List.filterMap_cons
end
abbrev gE := @List.getElem?_eq_getElem
set_option Elab.async false
set_option linter.all false
set_option maxRecDepth 100000
set_option maxHeartbeats 4000000
set_option bootstrap.genMatcherCode false
set_option genSizeOfSpec false
set_option compiler.extract_closed false
theorem Om{p:Prop}(h:p:=by lia):p:=h
theorem Dc{p:Prop}(h:p:=by decide):p:=h
theorem Dk{p:Prop}(h:p:=by decide +kernel):p:=h
namespace L2
theorem aRfl (h:True:=by rfl):True:=h
theorem aDec (h:True:=by decide):True:=h
theorem aFst (h:True:=by first | exact .inl rfl | exact .inr rfl | assumption):True:=h
theorem aIrf (h:True:=by intro _;rfl):True:=h
end L2
namespace Nb
def Su:Nat->(Nat->Int)->Int
 |0,_=>0
 |n+1,f=>Su n f+f n
theorem Xc{f g:Nat->Int}:∀{n:Nat},(∀i,i<n->f i=g i)->Su n f=Su n g
 |0,_=>rfl
 |n+1,h=>by show Su n f+f n=Su n g+g n;rw[Xc (n:=n) fun i hi=>h i Om,h n Om]
theorem Jw{f g:Nat->Int}:∀n:Nat,Su n (fun i=>f i+g i)=Su n f+Su n g
 |0=>rfl
 |n+1=>by show Su n (fun i=>f i+g i)+(f n+g n)=(Su n f+f n)+(Su n g+g n);rw[Jw n];lia
theorem Jd{f:Nat->Int}(c:Int):∀n:Nat,Su n (fun i=>c*f i)=c*Su n f
 |0=>(zV c).symm
 |n+1=>by show Su n _+_=c*(Su n f+f n);rw[Jd c n,Int.mul_add]
theorem Yr{f:Nat->Int}:∀{n:Nat},(∀i,i<n->f i=0)->Su n f=0
 |0,_=>rfl
 |n+1,h=>by show Su n f+f n=0;rw[Yr (n:=n) fun i hi=>h i Om,h n Om];rfl
theorem Zc{f:Nat->Int}{k:Nat}:∀{n:Nat},k<n->(∀i,i<n->i≠k->f i=0)->Su n f=f k
 |0,hk,_=>absurd hk (xK k)
 |n+1,hk,h=>by
  show Su n f+f n=f k
  by_cases e:k=n
  .subst e
   rw[Yr fun i hi=>h i Om Om,jZe]
  .rw[Zc (n:=n) (k:=k) Om fun i hi ne=>h i Om ne,h n Om Om,wJ]
theorem Qqm{f g:Nat->Int}:∀{n:Nat},(∀i,i<n->f i<=g i)->Su n f<=Su n g
 |0,_=>jYe _
 |n+1,h=>by
  have h1:=Qqm (n:=n) fun i hi=>h i Om
  have h2:=h n Om
  show Su n f+f n<=Su n g+g n
  lia
theorem Ks{f:Nat->Int}{k:Nat}{n:Nat}(hk:k<n):Su n f=f k+Su n (fun i=>if i=k then 0 else f i):=by
 have e:Su n f=Su n (fun i=>(if i=k then f k else 0)+(if i=k then 0 else f i)):=Xc fun i _=>by
  by_cases c:i=k
  .rw[if_pos c,if_pos c,c,wJ]
  .rw[if_neg c,if_neg c,jZe]
 rw[e,Jw,Zc (k:=k) hk fun i _ ne=>if_neg ne,if_pos rfl]
theorem Qpa{f:Nat->Int}{a b:Nat}{n:Nat}(ha:a<n)(hb:b<n)(ne:a≠b)(h:∀i,i<n->i≠a->i≠b->f i=0):Su n f=f a+f b:=by
 rw[Ks ha,Zc (k:=b) hb fun i hi nb=>by
  by_cases c:i=a
  .exact if_pos c
  .rw[if_neg c];exact h i hi c nb,if_neg (fun z=>ne z.symm)]
theorem Wd{f:Nat->Nat->Int}(m:Nat):∀n:Nat,Su n (fun i=>Su m (fun j=>f i j))=Su m (fun j=>Su n (fun i=>f i j))
 |0=>(Yr fun _ _=>rfl).symm
 |n+1=>by
  show Su n _+_=_
  rw[Wd m n,<-Jw];rfl
def sk(i k:Nat):Nat:=if k<i then k else k+1
def un(i k:Nat):Nat:=if k<i then k else k-1
def sg(i:Nat):Int:=if i % 2=0 then 1 else -1
def De:Nat->(Nat->Nat->Int)->Int
 |0,_=>1
 |n+1,v=>Su (n+1) fun i=>sg i*v i 0*De n fun k j=>v (sk i k) (j+1)
def up{α:Type}(v:Nat->α)(k:Nat)(g:α):Nat->α:=fun i=>if i=k then g else v i
theorem Xm{α:Type}{v:Nat->α}{k:Nat}{g:α}:up v k g k=g:=if_pos rfl
theorem Xd{α:Type}{v:Nat->α}{k i:Nat}{g:α}(h:i≠k):up v k g i=v i:=if_neg h
theorem up_up{α:Type}{v:Nat->α}{k:Nat}{g h:α}:up (up v k g) k h=up v k h:=by
 funext i
 by_cases c:i=k
 .rw[c,Xm,Xm]
 .rw[Xd c,Xd c,Xd c]
theorem Qgu{α:Type}{v:Nat->α}{k:Nat}:up v k (v k)=v:=by
 funext i
 by_cases c:i=k
 .rw[c,Xm]
 .rw[Xd c]
theorem Kl{α:Type}{v:Nat->α}{k c:Nat}{g h:α}(ne:c≠k):up (up v c g) k h=up (up v k h) c g:=by
 funext i
 by_cases e:i=k
 .subst e;rw[Xm,Xd (fun z=>ne z.symm),Xm]
 .rw[Xd e]
  by_cases e2:i=c
  .subst e2;rw[Xm,Xm]
  .rw[Xd e2,Xd e2,Xd e]
theorem sk_lt{n i k:Nat}(hk:k<n):sk i k<n+1:=by unfold sk;split<;>lia
theorem Je:∀{n:Nat} {v w:Nat->Nat->Int},(∀i,i<n->∀j,j<n->v i j=w i j)->De n v=De n w
 |0,_,_,_=>rfl
 |n+1,v,w,h=>by
  show Su (n+1) _=Su (n+1) _
  refine Xc fun i hi=>?_
  rw[h i hi 0 Om,Je (n:=n) (v:=fun k j=>v (sk i k) (j+1)) (w:=fun k j=>w (sk i k) (j+1)) fun k hk j hj=>h _ (sk_lt hk) _ Om]
theorem sk_ne{i k:Nat}:sk i k≠i:=by unfold sk;split<;>lia
theorem Qba{v:Nat->Nat->Int}{k:Nat}{z:Nat->Int}:(fun q j=>up v k z (sk k q) (j+1))=fun q j=>v (sk k q) (j+1):=by
 funext q j
 rw[Xd sk_ne]
theorem Qfm{i k q:Nat}(ne:i≠k):sk i q=k↔q=un i k:=by unfold sk un;split<;>split<;>lia
theorem Qbb{v:Nat->Nat->Int}{i k:Nat}{z:Nat->Int}(ne:i≠k):(fun q j=>up v k z (sk i q) (j+1))=up (fun q j=>v (sk i q) (j+1)) (un i k) (fun j=>z (j+1)):=by
 funext q
 by_cases c:q=un i k
 .rw[c,Xm,(Qfm ne).mpr rfl,Xm]
 .rw[Xd c,Xd (fun z=>c ((Qfm ne).mp z))]
theorem un_lt{n i k:Nat}(ne:i≠k)(hk:k<n+1)(hi:i<n+1):un i k<n:=by unfold un;split<;>lia
theorem Qhv:∀{n:Nat} {v:Nat->Nat->Int} {k:Nat} (a:Int) (x y:Nat->Int),k<n->De n (up v k fun j=>a*x j+y j)=a*De n (up v k x)+De n (up v k y)
 |0,_,_,_,_,_,h=>absurd h (xK _)
 |n+1,v,k,a,x,y,hk=>by
  show Su (n+1) _=a*Su (n+1) _+Su (n+1) _
  rw[<-Jd,<-Jw]
  refine Xc fun i hi=>?_
  by_cases c:i=k
  .subst c
   rw[Qba,Qba,Qba,Xm,Xm,Xm]
   grind
  .rw[Qbb c,Qbb c,Qbb c,Xd c,Xd c,Xd c,Qhv (n:=n) a (fun j=>x (j+1)) (fun j=>y (j+1)) (un_lt c hk hi)]
   grind
theorem Qcr{n:Nat}{v:Nat->Nat->Int}{k:Nat}(x y:Nat->Int)(hk:k<n):De n (up v k fun j=>x j+y j)=De n (up v k x)+De n (up v k y):=by
 have h:=Qhv (v:=v) 1 x y hk
 rw[jQa]at h
 rw[<-h]
 congr 2
 funext j
 rw[jQa]
theorem Qpb{n:Nat}{v:Nat->Nat->Int}{k:Nat}(hk:k<n):De n (up v k fun _=>0)=0:=by
 have h:=Qcr (v:=v) (fun _=>0) (fun _=>0) hk
 have e:(fun _:Nat=>(0:Int)+0)=fun _=>0:=rfl
 rw[e]at h
 lia
theorem Qhw{n:Nat}{v:Nat->Nat->Int}{k:Nat}(a:Int)(x:Nat->Int)(hk:k<n):De n (up v k fun j=>a*x j)=a*De n (up v k x):=by
 have h:=Qhv (v:=v) a x (fun _=>0) hk
 rw[Qpb hk,wJ]at h
 rw[<-h]
 congr 2
 funext j
 rw[wJ]
theorem Qhx{n:Nat}{v:Nat->Nat->Int}{k:Nat}(hk:k<n)(c:Nat->Int)(w:Nat->Nat->Int):∀m:Nat,De n (up v k fun j=>Su m fun i=>c i*w i j)=Su m fun i=>c i*De n (up v k (w i))
 |0=>Qpb hk
 |m+1=>by
  show De n (up v k fun j=>(Su m fun i=>c i*w i j)+c m*w m j)=(Su m fun i=>c i*De n (up v k (w i)))+c m*De n (up v k (w m))
  rw[Qcr (v:=v) (fun j=>Su m fun i=>c i*w i j) (fun j=>c m*w m j) hk,Qhx hk c w m,Qhw _ _ hk]
theorem Qqn(a:Nat):sg (a+1)=- sg a:=by unfold sg;split<;>split<;>lia
theorem Qhy:∀{n:Nat} {v:Nat->Nat->Int} {a:Nat},a+1<n->(∀j,v a j=v (a+1) j)->De n v=0
 |0,_,_,h,_=>absurd h (xK _)
 |n+1,v,a,ha,e=>by
  show Su (n+1) _=0
  rw[Qpa (a:=a) (b:=a+1) Om ha Om fun i hi na nb=>?_]
  .have em:(fun k j=>v (sk (a+1) k) (j+1))=fun k j=>v (sk a k) (j+1):=by
    funext k j
    by_cases c:k=a
    .rw[c,show sk (a+1) a=a from if_pos Om,show sk a a=a+1 from if_neg Om,e]
    .rw[show sk (a+1) k=sk a k from by unfold sk;split<;>split<;>lia]
   rw[em,Qqn,e 0]
   grind
  .rw[Qhy (n:=n) (v:=fun k j=>v (sk i k) (j+1)) (a:=un i a) (by unfold un;split<;>lia) fun j=>by
    show v (sk i (un i a)) (j+1)=v (sk i (un i a+1)) (j+1)
    have e1:sk i (un i a)=a:=(Qfm na).mpr rfl
    have e2:sk i (un i a+1)=a+1:=(Qfm nb).mpr (by unfold un;split<;>split<;>lia)
    rw[e1,e2,e],zV]
theorem Qpc{n:Nat}{v:Nat->Nat->Int}{c k:Nat}(ne:c≠k)(hc:c<n)(hk:k<n)(h0:∀z:Nat->Int,De n (up (up v c z) k z)=0)(x y:Nat->Int):De n (up (up v c x) k y)=- De n (up (up v c y) k x):=by
 have h:=h0 fun j=>x j+y j
 rw[Qcr (v:=up v c fun j=>x j+y j) x y hk,Kl ne,Kl ne,Qcr (v:=up v k x) x y hc,Qcr (v:=up v k y) x y hc,<-Kl ne,<-Kl ne,<-Kl ne,<-Kl ne,h0 x,h0 y]at h
 lia
theorem Qqo{n:Nat}:∀{b a:Nat} {v:Nat->Nat->Int},a<b->b<n->(∀j,v a j=v b j)->De n v=0
 |0,_,_,h,_,_=>absurd h (xK _)
 |b+1,a,v,hab,hb,e=>by
  by_cases c:a=b
  .subst c;exact Qhy hb e
  .have h1:=Qpc (n:=n) (v:=v) (c:=b) (k:=b+1) Om Om hb (fun z=>Qhy (a:=b) hb fun j=>by rw[Xd Om,Xm,Xm]) (v b) (v (b+1))
   rw[Qgu,Qgu]at h1
   rw[h1,Qqo (b:=b) (a:=a) Om Om fun j=>by rw[Xd Om,Xd Om,Xd Om,Xm,e]]
   rfl
theorem Qbc{n:Nat}{v:Nat->Nat->Int}{a b:Nat}(ne:a≠b)(ha:a<n)(hb:b<n)(e:v a=v b):De n v=0:=by
 rcases Nat.lt_or_gt_of_ne ne with h | h
 .exact Qqo h hb fun j=>by rw[e]
 .exact Qqo h ha fun j=>by rw[e]
theorem Qqp{n:Nat}{v:Nat->Nat->Int}{c k:Nat}(ne:c≠k)(hc:c<n)(hk:k<n)(x y:Nat->Int):De n (up (up v c x) k y)=- De n (up (up v c y) k x) :=
 Qpc ne hc hk (fun z=>Qbc ne hc hk (by rw[Xm,Xd ne,Xm])) x y
def idv:Nat->Nat->Int:=fun i j=>if i=j then 1 else 0
theorem De_id:∀n:Nat,De n idv=1
 |0=>rfl
 |n+1=>by
  show Su (n+1) _=1
  rw[Zc (k:=0) Om fun i _ ne=>by rw[show idv i 0=0 from if_neg ne,zV,wQ]]
  rw[Je (w:=idv) fun i _ j _=>by
   show(if sk 0 i=j+1 then(1:Int)else 0)=if i=j then 1 else 0
   rw[show sk 0 i=i+1 from if_neg Om]
   by_cases c:i=j
   .rw[if_pos c,if_pos Om]
   .rw[if_neg c,if_neg Om],De_id n]
  rfl
def fac:Nat->Int
 |0=>1
 |n+1=>((n+1:Nat):Int)*fac n
theorem Qfn{f:Nat->Int}{c:Int}:∀{n:Nat},(∀i,i<n->-c<=f i/\f i<=c)->-((n:Int)*c)<=Su n f/\Su n f<=(n:Int)*c
 |0,_=>by rw[show((0:Nat):Int)=0 from rfl,wQ];exact⟨jYe _,jYe _⟩
 |n+1,h=>by
  have h1:=Qfn (n:=n) (c:=c) fun i hi=>h i Om
  have h2:=h n Om
  have e:((n+1:Nat):Int)*c=(n:Int)*c+c:=by rw[kKe,Int.add_mul];show _+1*c=_;rw[jQa]
  rw[e]
  show -((n:Int)*c+c)<=Su n f+f n/\Su n f+f n<=_
  lia
theorem Qbd{a b A B:Int}(ha:-A<=a/\a<=A)(hb:-B<=b/\b<=B):-(A*B)<=a*b/\a*b<=A*B:=by
 have hA:0<=A:=Om
 have hB:0<=B:=Om
 have h1:0<=(A-a)*(B-b):=jXf Om Om
 have h2:0<=(A+a)*(B+b):=jXf Om Om
 have h3:0<=(A-a)*(B+b):=jXf Om Om
 have h4:0<=(A+a)*(B-b):=jXf Om Om
 constructor<;>grind
theorem Qpd{B:Int}(hB:0<=B):∀{n:Nat} {v:Nat->Nat->Int},(∀i,i<n->∀j,j<n->-B<=v i j/\v i j<=B)->-(fac n*B ^ n)<=De n v/\De n v<=fac n*B ^ n
 |0,_,_=>by
  rw[Int.pow_zero]
  show -((1:Int)*1)<=1/\(1:Int)<=1*1
  decide
 |n+1,v,h=>by
  have h1:∀i,i<n+1->-(B*(fac n*B ^ n))<=sg i*v i 0*De n (fun k j=>v (sk i k) (j+1))/\sg i*v i 0*De n (fun k j=>v (sk i k) (j+1))<=B*(fac n*B ^ n):=fun i hi=>by
   refine Qbd ?_ (Qpd hB fun k hk j hj=>h _ (sk_lt hk) _ Om)
   have:=h i hi 0 Om
   unfold sg
   split<;>lia
  have h2:=Qfn h1
  have e:((n+1:Nat):Int)*(B*(fac n*B ^ n))=fac (n+1)*B ^ (n+1):=by
   show _=((n+1:Nat):Int)*fac n*B ^ (n+1)
   rw[Int.pow_succ]
   grind
  rw[e]at h2
  exact h2
def dD(n:Nat)(F:Nat->Nat->Int)(o:Nat->Nat):Int:=De n fun k=>F (o k)
def sD(n:Nat)(F:Nat->Nat->Int)(o:Nat->Nat):Int:=if dD n F o<0 then -1 else 1
def scl(n:Nat)(F:Nat->Nat->Int)(o:Nat->Nat):Int:=sD n F o*dD n F o
def Ln(n:Nat)(F:Nat->Nat->Int)(o:Nat->Nat)(g:Nat->Int)(k:Nat):Int:=sD n F o*De n (up (fun k=>F (o k)) k g)
structure Bas(n:Nat)(F:Nat->Nat->Int)(o:Nat->Nat):Prop where
 nz:dD n F o≠0
 id:∀(g:Nat->Int) (j:Nat),j<n->scl n F o*g j=Su n fun k=>Ln n F o g k*F (o k) j
section
variable{n:Nat}{F:Nat->Nat->Int}{o:Nat->Nat}
theorem Qhz:sD n F o*sD n F o=1:=by unfold sD;split<;>rfl
theorem Xp(h:Bas n F o):0<scl n F o:=by
 have:=h.nz
 unfold scl sD
 split<;>lia
theorem Qbe{g g':Nat->Int}{k:Nat}(h:∀j,j<n->g j=g' j):Ln n F o g k=Ln n F o g' k:=by
 unfold Ln
 rw[Je (w:=up (fun k=>F (o k)) k g') fun i _ j hj=>by
  by_cases c:i=k
  .rw[c,Xm,Xm];exact h j hj
  .rw[Xd c,Xd c]]
theorem Qia{k:Nat}(hk:k<n)(c:Nat->Int)(w:Nat->Nat->Int)(m:Nat):Ln n F o (fun j=>Su m fun i=>c i*w i j) k=Su m fun i=>c i*Ln n F o (w i) k:=by
 unfold Ln
 rw[Qhx hk c w m,<-Jd]
 exact Xc fun i _=>by grind
theorem We{i k:Nat}(hi:i<n)(hk:k<n):Ln n F o (F (o i)) k=if i=k then scl n F o else 0:=by
 unfold Ln
 by_cases c:i=k
 .subst c
  rw[if_pos rfl,show up (fun k=>F (o k)) i (F (o i))=fun k=>F (o k)from Qgu]
  rfl
 .rw[if_neg c,Qbc c hi hk (by rw[Xd c,Xm]),zV]
theorem Bas.inj(h:Bas n F o){i k:Nat}(hi:i<n)(hk:k<n)(e:o i=o k):i=k:=Classical.byContradiction fun c=>h.nz (Qbc c hi hk (by show F (o i)=F (o k);rw[e]))
theorem Qqq(hF:∀t,t<n->∀j,F t j=if t=j then 1 else 0):dD n F (fun k=>k)=1:=by
 unfold dD
 rw[Je (w:=idv) fun i hi j _=>hF i hi j,De_id]
theorem Qgv(hF:∀t,t<n->∀j,F t j=if t=j then 1 else 0){g:Nat->Int}{k:Nat}(hk:k<n):Ln n F (fun k=>k) g k=g k:=by
 have e1:Ln n F (fun k=>k) g k=Ln n F (fun k=>k) (fun j=>Su n fun i=>g i*F i j) k:=Qbe fun j hj=>by
  rw[Zc (k:=j) hj fun i hi ne=>by rw[hF i hi,if_neg ne,zV],hF j hj,if_pos rfl,jKe]
 rw[e1,Qia hk,Zc (k:=k) hk fun i hi ne=>by
  rw[show F i=F ((fun k=>k) i)from rfl,We hi hk,if_neg ne,zV]]
 rw[show F k=F ((fun k=>k) k)from rfl,We hk hk,if_pos rfl]
 unfold scl sD
 rw[Qqq hF]
 rw[if_neg Dc]
 lia
theorem Qpe(hF:∀t,t<n->∀j,F t j=if t=j then 1 else 0):scl n F (fun k=>k)=1:=by
 unfold scl sD
 rw[Qqq hF]
 rfl
theorem bas_id(hF:∀t,t<n->∀j,F t j=if t=j then 1 else 0):Bas n F (fun k=>k) :=
 ⟨by rw[Qqq hF];decide,fun g j hj=>by
  rw[Qpe hF,jQa,Zc (k:=j) hj fun i hi ne=>by
   show _*F i j=0
   rw[hF i hi,if_neg ne,zV],hF j hj,if_pos rfl,jKe,Qgv hF hj]⟩
def sgn(p:Int):Int:=if p<0 then -1 else 1
def ab(p:Int):Int:=if p<0 then -p else p
theorem Qib(p:Int):sgn p*p=ab p:=by unfold sgn ab;split<;>lia
variable{t c:Nat}
theorem up_F:(fun k=>F (up o c t k))=up (fun k=>F (o k)) c (F t):=by
 funext k
 by_cases e:k=c
 .subst e;rw[Xm,Xm]
 .rw[Xd e,Xd e]
theorem Qqr:dD n F (up o c t)=sD n F o*Ln n F o (F t) c:=by
 unfold dD Ln
 rw[up_F,<-kYf,Qhz,jQa]
theorem Qqs(hp:Ln n F o (F t) c≠0):sD n F (up o c t)=sD n F o*sgn (Ln n F o (F t) c):=by
 have h:sD n F (up o c t)=if dD n F (up o c t)<0 then -1 else 1:=rfl
 rw[h,Qqr]
 generalize Ln n F o (F t) c=p at hp
 unfold sD sgn
 split<;>split<;>split<;>lia
theorem Qic(hp:Ln n F o (F t) c≠0):scl n F (up o c t)=ab (Ln n F o (F t) c):=by
 show sD n F (up o c t)*dD n F (up o c t)=_
 rw[Qqs hp,Qqr,<-Qib]
 have:=Qhz (n:=n) (F:=F) (o:=o)
 grind
theorem Vx(hp:Ln n F o (F t) c≠0)(g:Nat->Int):Ln n F (up o c t) g c=sgn (Ln n F o (F t) c)*Ln n F o g c:=by
 have h:Ln n F (up o c t) g c=sD n F (up o c t)*De n (up (fun k=>F (up o c t k)) c g):=rfl
 rw[h,Qqs hp,up_F,up_up]
 unfold Ln
 grind
theorem Vy(h:Bas n F o)(hp:Ln n F o (F t) c≠0)(hc:c<n){k:Nat}(hk:k<n)(ne:k≠c)(g:Nat->Int) :
  scl n F o*Ln n F (up o c t) g k=ab (Ln n F o (F t) c)*Ln n F o g k-sgn (Ln n F o (F t) c)*Ln n F o g c*Ln n F o (F t) k:=by
 have e:Ln n F (up o c t) g k=sD n F (up o c t)*De n (up (fun k=>F (up o c t k)) k g):=rfl
 have e1:De n (up (up (fun k=>F (o k)) c (F t)) k fun j=>scl n F o*g j)=De n (up (up (fun k=>F (o k)) c (F t)) k fun j=>Su n fun i=>Ln n F o g i*F (o i) j):=Je fun i _ j hj=>by
  by_cases z:i=k
  .subst z;rw[Xm,Xm];exact h.id g j hj
  .rw[Xd z,Xd z]
 rw[Qhw _ _ hk,Qhx hk (fun i=>Ln n F o g i) (fun i=>F (o i)),Qpa (a:=k) (b:=c) hk hc ne fun i hi na nb=>by
  rw[Qbc (a:=i) (b:=k) na hi hk (by rw[Xd na,Xd nb,Xm]),zV]]at e1
 rw[show De n (up (up (fun k=>F (o k)) c (F t)) k (F (o k)))=sD n F o*Ln n F o (F t) c from by
   rw[show up (up (fun k=>F (o k)) c (F t)) k (F (o k))=up (fun k=>F (o k)) c (F t)from by rw[Kl (fun z=>ne z.symm),show up (fun k=>F (o k)) k (F (o k))=fun k=>F (o k)from Qgu]]
   unfold Ln
   rw[<-kYf,Qhz,jQa],
  show De n (up (up (fun k=>F (o k)) c (F t)) k (F (o c)))=- (sD n F o*Ln n F o (F t) k)from by
   rw[Qqp (fun z=>ne z.symm) hc hk,show up (fun k=>F (o k)) c (F (o c))=fun k=>F (o k)from Qgu]
   unfold Ln
   rw[<-kYf,Qhz,jQa]]at e1
 rw[e,Qqs hp,up_F,<-Qib]
 have s2:=Qhz (n:=n) (F:=F) (o:=o)
 generalize De n (up (up (fun k=>F (o k)) c (F t)) k g)=d at e1⊢
 generalize Ln n F o (F t) c=p at e1⊢
 generalize Ln n F o (F t) k=q at e1⊢
 generalize Ln n F o g k=x at e1⊢
 generalize Ln n F o g c=y at e1⊢
 generalize sD n F o=σ at e1 s2⊢
 generalize scl n F o=S at e1⊢
 generalize sgn p=τ
 have e2:S*(σ*τ*d)=σ*τ*(S*d):=by grind
 rw[e2,e1]
 have e3:σ*τ*(x*(σ*p)+y * -(σ*q))=(σ*σ)*(τ*p*x-τ*y*q):=by grind
 rw[e3,s2,jQa]
theorem Qid{p:Int}(h:p≠0):0<ab p:=by unfold ab;split<;>lia
theorem Qqt(h:Bas n F o)(hp:Ln n F o (F t) c≠0)(hc:c<n)(g:Nat->Int)(e:Nat->Int)(et:Int) :
  scl n F o*Su n (fun k=>Ln n F (up o c t) g k*up e c et k)=ab (Ln n F o (F t) c)*Su n (fun k=>Ln n F o g k*e k)-sgn (Ln n F o (F t) c)*Ln n F o g c*(Su n (fun k=>Ln n F o (F t) k*e k)-scl n F o*et):=by
 have e1:scl n F o*Su n (fun k=>Ln n F (up o c t) g k*up e c et k)=Su n (fun k=>(ab (Ln n F o (F t) c)*(Ln n F o g k*e k)+(-(sgn (Ln n F o (F t) c)*Ln n F o g c))*(Ln n F o (F t) k*e k))+(if k=c then scl n F o*(sgn (Ln n F o (F t) c)*Ln n F o g c*et)else 0)):=by
  rw[<-Jd]
  refine Xc fun k hk=>?_
  by_cases z:k=c
  .subst z
   rw[Xm,if_pos rfl,Vx hp,<-Qib]
   grind
  .rw[Xd z,if_neg z,<-kYf,Vy h hp hc hk z]
   grind
 rw[e1,Jw,Jw,Jd,Jd,Zc (f:=fun k=>if k=c then _ else _) (k:=c) hc fun i _ ne=>if_neg ne,if_pos rfl]
 grind
theorem Bas.up(h:Bas n F o)(hp:Ln n F o (F t) c≠0)(hc:c<n):Bas n F (up o c t):=by
 refine⟨fun z=>?_,fun g j hj=>?_⟩
 .rw[Qqr]at z
  rcases jXb.mp z with y | y
  .unfold sD at y;split at y<;>cases y
  .exact hp y
 .have S0:=Xp h
  have e:=Qqt h hp hc g (fun k=>F (o k) j) (F t j)
  rw[<-h.id g j hj,<-h.id (F t) j hj,kYc,zV,Int.sub_zero]at e
  have e2:(fun k=>Ln n F (Nb.up o c t) g k*Nb.up (fun k=>F (o k) j) c (F t j) k)=fun k=>Ln n F (Nb.up o c t) g k*F (Nb.up o c t k) j:=by
   funext k
   by_cases z:k=c
   .subst z;rw[Xm,Xm]
   .rw[Xd z,Xd z]
  rw[e2]at e
  rw[Qic hp]
  refine kJc (a:=scl n F o) Om ?_
  rw[e]
  grind
def Vl(n:Nat)(F:Nat->Nat->Int)(o:Nat->Nat)(e:Nat->Int)(g:Nat->Int):Int:=Su n fun k=>Ln n F o g k*e k
theorem Qfo{e:Nat->Int}{g g':Nat->Int}(h:∀j,j<n->g j=g' j):Vl n F o e g=Vl n F o e g':=Xc fun k _=>by rw[Qbe h]
theorem Qie{e:Nat->Int}(cf:Nat->Int)(w:Nat->Nat->Int)(m:Nat):Vl n F o e (fun j=>Su m fun i=>cf i*w i j)=Su m fun i=>cf i*Vl n F o e (w i):=by
 unfold Vl
 rw[show(Su m fun i=>cf i*Su n fun k=>Ln n F o (w i) k*e k)=Su m fun i=>Su n fun k=>cf i*(Ln n F o (w i) k*e k)from Xc fun i _=>(Jd _ _).symm,Wd]
 refine Xc fun k hk=>?_
 rw[Qia hk,wX,<-Jd]
 exact Xc fun i _=>by grind
theorem Vl_out{e:Nat->Int}{i:Nat}(hi:i<n):Vl n F o e (F (o i))=scl n F o*e i:=by
 unfold Vl
 rw[Zc (k:=i) hi fun k hk ne=>by rw[We hi hk,if_neg (fun z=>ne z.symm),wQ],We hi hi,if_pos rfl]
theorem Qmn(hF:∀t,t<n->∀j,F t j=if t=j then 1 else 0){e:Nat->Int}(g:Nat->Int):Vl n F o e g=Su n fun j=>g j*Vl n F o e (F j):=by
 rw[<-Qie]
 exact Qfo fun j hj=>by rw[Zc (k:=j) hj fun i hi ne=>by rw[hF i hi,if_neg ne,zV],hF j hj,if_pos rfl,jKe]
theorem Qmo(hF:∀t,t<n->∀j,F t j=if t=j then 1 else 0){k:Nat}(hk:k<n)(g:Nat->Int):Ln n F o g k=Su n fun j=>g j*Ln n F o (F j) k:=by
 rw[<-Qia hk]
 exact Qbe fun j hj=>by rw[Zc (k:=j) hj fun i hi ne=>by rw[hF i hi,if_neg ne,zV],hF j hj,if_pos rfl,jKe]
end
def en(lo:Nat->Int)(o:Nat->Nat)(one:Nat->Bool)(k:Nat):Int:=if one k=true then 1 else lo (o k)
def sx(one:Nat->Bool)(k:Nat):Int:=if one k=true then -1 else 1
def Vo(n:Nat)(F:Nat->Nat->Int)(lo:Nat->Int)(o:Nat->Nat)(one:Nat->Bool)(g:Nat->Int):Int:=Vl n F o (en lo o one) g
def et(lo:Nat->Int)(t:Nat)(side:Int):Int:=if side=-1 then 1 else lo t
structure Stt(n N:Nat)(F:Nat->Nat->Int)(o:Nat->Nat)(one:Nat->Bool):Prop where
 ba:Bas n F o
 th:∀k,k<n->o k<N
 ch:∀k,k<n->one k=true->o k<n
structure Fx(n N:Nat)(F:Nat->Nat->Int)(lo:Nat->Int):Prop where
 F1:∀t,t<n->∀j,F t j=if t=j then 1 else 0
 l0:∀t,t<n->lo t=0
 nN:n<=N
def Wi(n:Nat)(F:Nat->Nat->Int)(lo:Nat->Int)(o:Nat->Nat)(one:Nat->Bool)(t:Nat):Prop:=lo t*scl n F o<=Vo n F lo o one (F t)/\(t<n->Vo n F lo o one (F t)<=scl n F o)
def lk(n:Nat)(F:Nat->Nat->Int)(lo:Nat->Int)(o:Nat->Nat)(one:Nat->Bool)(t:Nat)(side:Int):Int:=side*(et lo t side*scl n F o-Vo n F lo o one (F t))
def hp(n:Nat)(F:Nat->Nat->Int)(o:Nat->Nat)(one:Nat->Bool)(t:Nat)(side:Int)(k:Nat):Int:=sx one k*Ln n F o (F t) k*side
structure Brk(n N:Nat)(F:Nat->Nat->Int)(lo:Nat->Int)(o:Nat->Nat)(one:Nat->Bool)(t:Nat)(side:Int):Prop where
 tN:t<N
 sd:side=1\/(side=-1/\t<n)
 lk:0<lk n F lo o one t side
section
variable{n N:Nat}{F:Nat->Nat->Int}{lo:Nat->Int}{o:Nat->Nat}{one:Nat->Bool}{t c:Nat}{side:Int}
theorem Qcs{i:Nat}(hi:i<n):Vo n F lo o one (F (o i))=scl n F o*en lo o one i:=Vl_out hi
theorem Qif(X:Fx n N F lo)(S:Stt n N F o one){i:Nat}(hi:i<n):Wi n F lo o one (o i):=by
 have p:=Xp S.ba
 unfold Wi
 rw[Qcs hi]
 unfold en
 by_cases c:one i=true
 .rw[if_pos c,X.l0 _ (S.ch i hi c)]
  exact⟨Om,fun _=>Om⟩
 .rw[if_neg c]
  exact⟨by rw[wX];exact jYe _,fun z=>by rw[X.l0 _ z];lia⟩
theorem Brk.out(X:Fx n N F lo)(S:Stt n N F o one)(B:Brk n N F lo o one t side){k:Nat}(hk:k<n):o k≠t:=fun e=>by
 have w:=Qif X S hk
 rw[e]at w
 have l:=B.lk
 unfold Nb.lk et at l
 rcases B.sd with z | ⟨z,h⟩
 .rw[z,if_neg Dc]at l
  have:=w.1
  lia
 .rw[z,if_pos rfl]at l
  have:=w.2 h
  lia
theorem Qqu(h:side=1\/(side=-1/\t<n)):side*side=1:=by rcases h with z | ⟨z,_⟩<;>rw[z]<;>rfl
theorem Kt(h:0<hp n F o one t side c):Ln n F o (F t) c≠0:=fun z=>by
 unfold hp at h
 rw[z,zV,wQ]at h
 lia
theorem Qbf(hs:side=1\/(side=-1/\t<n))(h:0<hp n F o one t side c):ab (Ln n F o (F t) c)=hp n F o one t side c/\sgn (Ln n F o (F t) c)=sx one c*side:=by
 unfold hp sx at *
 generalize Ln n F o (F t) c=p at *
 unfold ab sgn
 rcases hs with z | ⟨z,_⟩<;>subst z<;>split at h<;>split<;>lia
def one'(one:Nat->Bool)(c:Nat)(side:Int):Nat->Bool:=up one c (decide (side=-1))
theorem Stt.up(S:Stt n N F o one)(B:Brk n N F lo o one t side)(hc:c<n)(h:0<hp n F o one t side c):Stt n N F (up o c t) (one' one c side):=by
 refine⟨S.ba.up (Kt h) hc,fun k hk=>?_,fun k hk e=>?_⟩
 .by_cases z:k=c
  .rw[z,Xm];exact B.tN
  .rw[Xd z];exact S.th k hk
 .unfold one' at e
  by_cases z:k=c
  .rw[z,Xm]at e
   rw[z,Xm]
   rcases B.sd with y | ⟨_,y⟩
   .have:=kK e;lia
   .exact y
  .rw[Xd z]at e⊢
   exact S.ch k hk e
theorem en_up(B:side=1\/(side=-1/\t<n)):en lo (up o c t) (one' one c side)=up (en lo o one) c (et lo t side):=by
 funext k
 unfold en one' et
 by_cases z:k=c
 .subst z
  rw[Xm,Xm,Xm]
  by_cases y:side=-1
  .rw[if_pos y,kW y,if_pos rfl]
  .rw[if_neg y,jQe y,if_neg Dc]
 .rw[Xd z,Xd z,Xd z]
theorem Qmp(B:Brk n N F lo o one t side)(h:0<hp n F o one t side c):scl n F (up o c t)=hp n F o one t side c:=by rw[Qic (Kt h),(Qbf B.sd h).1]
theorem Qqv(S:Stt n N F o one)(B:Brk n N F lo o one t side)(hc:c<n)(h:0<hp n F o one t side c)(g:Nat->Int) :
  scl n F o*Vo n F lo (up o c t) (one' one c side) g=hp n F o one t side c*Vo n F lo o one g+sx one c*Ln n F o g c*lk n F lo o one t side:=by
 have e:=Qqt S.ba (Kt h) hc g (en lo o one) (et lo t side)
 unfold Vo Vl
 rw[en_up B.sd,e,(Qbf B.sd h).1,(Qbf B.sd h).2]
 have e2:lk n F lo o one t side=side*(et lo t side*scl n F o-Su n fun k=>Ln n F o (F t) k*en lo o one k):=rfl
 rw[e2]
 grind
theorem Qao(S:Stt n N F o one)(B:Brk n N F lo o one t side)(hc:c<n)(h:0<hp n F o one t side c){k:Nat}(hk:k<n)(ne:k≠c)(g:Nat->Int) :
  scl n F o*(sx (one' one c side) k*Ln n F (up o c t) g k)=hp n F o one t side c*(sx one k*Ln n F o g k)-sx one c*Ln n F o g c*hp n F o one t side k:=by
 have e:=Vy S.ba (Kt h) hc hk ne g
 rw[(Qbf B.sd h).1,(Qbf B.sd h).2]at e
 have e2:sx (one' one c side) k=sx one k:=by unfold sx one';rw[Xd ne]
 rw[e2]
 have e3:scl n F o*(sx one k*Ln n F (up o c t) g k)=sx one k*(scl n F o*Ln n F (up o c t) g k):=by grind
 rw[e3,e]
 have e4:hp n F o one t side k=sx one k*Ln n F o (F t) k*side:=rfl
 rw[e4]
 grind
theorem Qap(B:Brk n N F lo o one t side)(h:0<hp n F o one t side c)(g:Nat->Int):sx (one' one c side) c*Ln n F (up o c t) g c=sx one c*Ln n F o g c:=by
 rw[Vx (Kt h),(Qbf B.sd h).2]
 have e:sx (one' one c side) c=side:=by
  unfold sx one'
  rw[Xm]
  rcases B.sd with z | ⟨z,_⟩<;>subst z<;>rfl
 rw[e]
 have:=Qqu (t:=t) (n:=n) B.sd
 grind
def Lx(a b:Int):Prop:=0<a\/(a=0/\0<=b)
theorem Lx.of_mul{s a b:Int}(hs:0<s)(h:Lx (s*a) (s*b)):Lx a b:=by
 rcases h with h | ⟨h,h2⟩
 .exact .inl (Int.pos_of_mul_pos_left (by rw[wX];exact h) hs)
 .rcases jXb.mp h with y | y
  .omega
  .exact .inr ⟨y,jZf (by rw[wX];exact h2) hs⟩
theorem Lx.mul{s a b:Int}(hs:0<s)(h:Lx a b):Lx (s*a) (s*b):=by
 rcases h with h | ⟨h,h2⟩
 .exact .inl (Int.mul_pos hs h)
 .exact .inr ⟨by rw[h,zV],jXf Om h2⟩
theorem Lx.mul0{s a b:Int}(hs:0<=s)(h:Lx a b):Lx (s*a) (s*b):=by
 by_cases z:s=0
 .rw[z,wQ,wQ];exact .inr ⟨rfl,jYe _⟩
 .exact Lx.mul Om h
theorem Lx.add{a b a' b':Int}(h:Lx a b)(h':Lx a' b'):Lx (a+a') (b+b'):=by unfold Lx at *;lia
def pq(n:Nat)(F:Nat->Nat->Int)(o:Nat->Nat)(one:Nat->Bool)(g:Nat->Int)(k:Nat):Int:=sx one k*Ln n F o g k
def Dual(n:Nat)(F:Nat->Nat->Int)(cA cB:Nat->Int)(o:Nat->Nat)(one:Nat->Bool):Prop:=∀k,k<n->Lx (pq n F o one cA k) (pq n F o one cB k)
def NearC(n:Nat)(F:Nat->Nat->Int)(cA cB:Nat->Int)(o:Nat->Nat)(one:Nat->Bool)(t:Nat)(side:Int)(c:Nat):Prop:=∀k,k<n->k≠c ->
 Lx (hp n F o one t side c*pq n F o one cA k-pq n F o one cA c*hp n F o one t side k) (hp n F o one t side c*pq n F o one cB k-pq n F o one cB c*hp n F o one t side k)
variable{cA cB:Nat->Int}
theorem Qig(S:Stt n N F o one)(B:Brk n N F lo o one t side)(hc:c<n)(h:0<hp n F o one t side c)(hx:Lx (pq n F o one cA c) (pq n F o one cB c))(hn:NearC n F cA cB o one t side c):Dual n F cA cB (up o c t) (one' one c side):=fun k hk=>by
 by_cases z:k=c
 .subst z
  unfold pq
  rw[Qap B h,Qap B h]
  exact hx
 .refine Lx.of_mul (Xp S.ba) ?_
  have y:=hn k hk z
  unfold pq
  rw[Qao S B hc h hk z,Qao S B hc h hk z]
  exact y
def dO(n:Nat)(F:Nat->Nat->Int)(lo:Nat->Int)(g:Nat->Int)(o:Nat->Nat)(one:Nat->Bool)(o2:Nat->Nat)(one2:Nat->Bool):Int:=scl n F o*Vo n F lo o2 one2 g-scl n F o2*Vo n F lo o one g
theorem Qbg(S:Stt n N F o one)(B:Brk n N F lo o one t side)(hc:c<n)(h:0<hp n F o one t side c)(g:Nat->Int):dO n F lo g o one (up o c t) (one' one c side)=pq n F o one g c*lk n F lo o one t side:=by
 unfold dO
 rw[Qqv S B hc h,Qmp B h]
 unfold pq
 grind
theorem Ka{o1 o2 o3:Nat->Nat}{n1 n2 n3:Nat->Bool}(g:Nat->Int):scl n F o2*dO n F lo g o1 n1 o3 n3=scl n F o3*dO n F lo g o1 n1 o2 n2+scl n F o1*dO n F lo g o2 n2 o3 n3:=by
 unfold dO
 grind
theorem Qqw{k:Nat}(X:Fx n N F lo)(ht:o k<n):en lo o (up one k (!one k))=up (en lo o one) k (en lo o one k+sx one k):=by
 funext i
 unfold en sx
 by_cases z:i=k
 .subst z
  rw[Xm,Xm,X.l0 _ ht]
  cases one i<;>rfl
 .rw[Xd z,Xd z]
theorem Qbh{k:Nat}(X:Fx n N F lo)(hk:k<n)(ht:o k<n)(g:Nat->Int):Vo n F lo o (up one k (!one k)) g=Vo n F lo o one g+sx one k*Ln n F o g k:=by
 unfold Vo Vl
 rw[Qqw X ht,Ks hk,Xm,Ks (f:=fun i=>Ln n F o g i*en lo o one i) hk]
 rw[Xc (g:=fun i=>if i=k then 0 else Ln n F o g i*en lo o one i) fun i _=>by
  by_cases z:i=k
  .rw[if_pos z,if_pos z]
  .rw[if_neg z,if_neg z,Xd z]]
 grind
theorem Stt.flip{k:Nat}(S:Stt n N F o one)(ht:o k<n):Stt n N F o (Nb.up one k (!one k)) :=
 ⟨S.ba,S.th,fun i hi e=>by
  by_cases z:i=k
  .rw[z];exact ht
  .rw[Xd z]at e;exact S.ch i hi e⟩
end
structure Rc where
 (o:Nat->Nat) (one:Nat->Bool) (t:Nat) (side:Int) (c:Nat)
structure Pl(n N:Nat)(F:Nat->Nat->Int)(lo:Nat->Int)(cA cB:Nat->Int)(r:Rc):Prop where
 st:Stt n N F r.o r.one
 br:Brk n N F lo r.o r.one r.t r.side
 cn:r.c<n
 hl:0<hp n F r.o r.one r.t r.side r.c
 ft:∀t,t<r.t->Wi n F lo r.o r.one t
 zA:Ln n F r.o cA r.c=0
 zB:Ln n F r.o cB r.c=0
 mn:∀k,k<n->0<hp n F r.o r.one r.t r.side k->Ln n F r.o cA k=0->Ln n F r.o cB k=0->r.o r.c<=r.o k
def Nxt(r r':Rc):Prop:=r'.o=up r.o r.c r.t/\r'.one=one' r.one r.c r.side
section
variable{n N:Nat}{F:Nat->Nat->Int}{lo:Nat->Int}{cA cB:Nat->Int}{R:Nat->Rc}
theorem Ku(S:Stt n N F o one){t c:Nat}(hp0:Ln n F o (F t) c≠0)(hc:c<n){g:Nat->Int}(hz:Ln n F o g c=0){k:Nat}(hk:k<n)(h:k=c\/Ln n F o g k=0):Ln n F (up o c t) g k=0:=by
 by_cases z:k=c
 .rw[z,Vx hp0,hz,zV]
 .have e:=Vy S.ba hp0 hc hk z g
  rw[hz,h.resolve_left z,zV,zV,wQ]at e
  have:=Xp S.ba
  rcases jXb.mp (e.trans (kYc 0))with y | y
  .omega
  .exact y
theorem Qqx{o:Nat->Nat}{one:Nat->Bool}(a:Int)(g:Nat->Int):Vo n F lo o one (fun j=>a*g j)=a*Vo n F lo o one g:=by
 have h:=Qie (n:=n) (F:=F) (o:=o) (e:=en lo o one) (fun _=>a) (fun _=>g) 1
 have e:(fun j=>Su 1 fun i=>(fun _:Nat=>a) i*(fun _:Nat=>g) i j)=fun j=>a*g j:=by funext j;show(0:Int)+a*g j=_;lia
 rw[e]at h
 have e2:(Su 1 fun i=>(fun _:Nat=>a) i*Vl n F o (en lo o one) ((fun _:Nat=>g) i))=a*Vl n F o (en lo o one) g:=by show(0:Int)+a*Vl n F o (en lo o one) g=_;lia
 exact h.trans e2
theorem bland(X:Fx n N F lo){A B:Nat}(hAB:A<B)(hP:∀i,A<=i->i<=B->Pl n N F lo cA cB (R i))(hN:∀i,A<=i->i<B->Nxt (R i) (R (i+1)))(hc:(R B).c=(R A).c)(hne:∀i,A<i->i<B->(R i).c≠(R A).c)(ht:∀i,A<=i->i<=B->(R i).t<=(R A).t):False:=by
 have PA:=hP A (jY _) Om
 have PB:=hP B Om (jY _)
 -- the column of the thing that came at A
 have col:∀d,A+1+d<=B->(R (A+1+d)).o (R A).c=(R A).t/\(R (A+1+d)).one (R A).c=decide ((R A).side=-1):=by
  intro d
  induction d with
  |zero=>
   intro h
   obtain⟨e1,e2⟩:=hN A (jY _) hAB
   show(R (A+1)).o _=_/\(R (A+1)).one _=_
   rw[e1,e2,one',Xm,Xm]
   exact⟨rfl,rfl⟩
  |succ d ih=>
   intro h
   obtain⟨i1,i2⟩:=ih Om
   obtain⟨e1,e2⟩:=hN (A+1+d) Om Om
   have nc:=hne (A+1+d) Om Om
   show(R (A+1+d+1)).o _=_/\(R (A+1+d+1)).one _=_
   rw[e1,e2,one',Xd (fun z=>nc z.symm),Xd (fun z=>nc z.symm)]
   exact⟨i1,i2⟩
 obtain⟨cB1,cB2⟩:=col (B-(A+1)) Om
 rw[show A+1+(B-(A+1))=B from by lia]at cB1 cB2
 -- the other columns
 have oth:∀k,k<n->∀d,A+d<=B->((R (A+d)).o k=(R A).o k/\(R (A+d)).one k=(R A).one k)\/(Ln n F (R (A+d)).o cA k=0/\Ln n F (R (A+d)).o cB k=0/\(R (A+d)).o k<=(R A).t):=by
  intro k hk d
  induction d with
  |zero=>exact fun _=>.inl ⟨rfl,rfl⟩
  |succ d ih=>
   intro h
   obtain⟨e1,e2⟩:=hN (A+d) Om Om
   have Pd:=hP (A+d) Om Om
   by_cases z:k=(R (A+d)).c
   .refine .inr ⟨?_,?_,?_⟩
    .show Ln n F (R (A+d+1)).o cA k=0
     rw[e1];exact Ku Pd.st (Kt Pd.hl) Pd.cn Pd.zA hk (.inl z)
    .show Ln n F (R (A+d+1)).o cB k=0
     rw[e1];exact Ku Pd.st (Kt Pd.hl) Pd.cn Pd.zB hk (.inl z)
    .show(R (A+d+1)).o k<=_
     rw[e1,z,Xm];exact ht _ Om Om
   .rcases ih Om with⟨i1,i2⟩ | ⟨i1,i2,i3⟩
    .refine .inl ⟨?_,?_⟩
     .show(R (A+d+1)).o k=_
      rw[e1,Xd z];exact i1
     .show(R (A+d+1)).one k=_
      rw[e2,one',Xd z];exact i2
    .refine .inr ⟨?_,?_,?_⟩
     .show Ln n F (R (A+d+1)).o cA k=0
      rw[e1];exact Ku Pd.st (Kt Pd.hl) Pd.cn Pd.zA hk (.inr i1)
     .show Ln n F (R (A+d+1)).o cB k=0
      rw[e1];exact Ku Pd.st (Kt Pd.hl) Pd.cn Pd.zB hk (.inr i2)
     .show(R (A+d+1)).o k<=_
      rw[e1,Xd z];exact i3
 have hAc:=PA.cn
 have sA:=Xp PA.st.ba
 have sB:=Xp PB.st.ba
 have rlt:(R B).t<(R A).t:=by
  have h1:=ht B Om (jY _)
  have h2:=PB.br.out X PB.st hAc
  rw[cB1]at h2
  lia
 have wr:=PA.ft _ rlt
 -- the sum
 have ide:scl n F (R B).o*Vo n F lo (R A).o (R A).one (F (R B).t)=Su n fun k=>Ln n F (R B).o (F (R B).t) k*Vo n F lo (R A).o (R A).one (F ((R B).o k)):=by
  rw[<-Qqx]
  unfold Vo
  rw[<-Qie (fun k=>Ln n F (R B).o (F (R B).t) k) (fun k=>F ((R B).o k)) n]
  exact Qfo fun j hj=>PB.st.ba.id _ j hj
 have bl:=PB.br.lk
 have term:∀k,k<n->(R B).side*(Ln n F (R B).o (F (R B).t) k*(Vo n F lo (R A).o (R A).one (F ((R B).o k))-scl n F (R A).o*en lo (R B).o (R B).one k))<=0:=by
  intro k hk
  have hb:=oth k hk (B-A) Om
  rw[show A+(B-A)=B from by lia]at hb
  rcases hb with⟨h1,h2⟩ | ⟨h1,h2,h3⟩
  .have e1:en lo (R B).o (R B).one k=en lo (R A).o (R A).one k:=by unfold en;rw[h1,h2]
   rw[e1,h1,Qcs hk,kYc,zV,zV]
   exact jYe _
  .have eh:hp n F (R B).o (R B).one (R B).t (R B).side k=sx (R B).one k*Ln n F (R B).o (F (R B).t) k*(R B).side:=rfl
   by_cases z:(R B).o k=(R A).t
   .have ek:k=(R A).c:=PB.st.ba.inj hk hAc (z.trans cB1.symm)
    have hl:=PB.hl
    rw[hc,<-ek,eh]at hl
    rw[<-ek]at cB2
    rw[z]
    have la:=PA.br.lk
    unfold lk et at la
    have een:en lo (R B).o (R B).one k=et lo (R A).t (R A).side:=by
     unfold en et
     rw[cB2,z]
     by_cases y:(R A).side=-1
     .rw[if_pos y,kW y,if_pos rfl]
     .rw[if_neg y,jQe y,if_neg Dc]
    have esx:sx (R B).one k=(R A).side:=by
     unfold sx
     rw[cB2]
     rcases PA.br.sd with y | ⟨y,_⟩<;>rw[y]<;>rfl
    rw[esx]at hl
    rw[een]
    have la2:0<(R A).side*(et lo (R A).t (R A).side*scl n F (R A).o-Vo n F lo (R A).o (R A).one (F (R A).t)):=PA.br.lk
    have h5:=Int.mul_pos hl la2
    have sq:=Qqu (n:=n) (t:=(R A).t) PA.br.sd
    generalize Vo n F lo (R A).o (R A).one (F (R A).t)=v at *
    generalize Ln n F (R B).o (F (R B).t) k=l at *
    generalize et lo (R A).t (R A).side=e at *
    generalize (R A).side=a at *
    generalize (R B).side=b at *
    generalize scl n F (R A).o=s at *
    have e6:a*l*b*(a*(e*s-v))=(a*a)*(b*(l*(e*s-v))):=by grind
    rw[e6,sq,jQa]at h5
    have e7:b*(l*(v-s*e))=- (b*(l*(e*s-v))):=by grind
    lia
   .have lt:(R B).o k<(R A).t:=Om
    have w:=PA.ft _ lt
    have nh:¬0<hp n F (R B).o (R B).one (R B).t (R B).side k:=fun y=>by
     have:=PB.mn k hk y h1 h2
     rw[hc,cB1]at this
     lia
    rw[eh]at nh
    have e7:∀l v b e s:Int,b*(l*(v-s*e))=(l*b)*(v-s*e):=fun l v b e s=>by grind
    rw[e7]
    unfold sx at nh
    unfold en
    by_cases y:(R B).one k=true
    .rw[if_pos y]at nh⊢
     have w2:=w.2 (PB.st.ch k hk y)
     have e8:(-1:Int)*Ln n F (R B).o (F (R B).t) k*(R B).side=- (Ln n F (R B).o (F (R B).t) k*(R B).side):=by grind
     rw[e8]at nh
     exact Int.mul_nonpos_of_nonneg_of_nonpos Om Om
    .rw[if_neg y]at nh⊢
     have w1:=w.1
     rw[jQa]at nh
     refine Int.mul_nonpos_of_nonpos_of_nonneg Om ?_
     rw[wX]at w1
     lia
 have tot:(R B).side*(scl n F (R B).o*Vo n F lo (R A).o (R A).one (F (R B).t)-scl n F (R A).o*Vo n F lo (R B).o (R B).one (F (R B).t))<=0:=by
  have e1:(R B).side*(scl n F (R B).o*Vo n F lo (R A).o (R A).one (F (R B).t)-scl n F (R A).o*Vo n F lo (R B).o (R B).one (F (R B).t))=Su n fun k=>(R B).side*(Ln n F (R B).o (F (R B).t) k*(Vo n F lo (R A).o (R A).one (F ((R B).o k))-scl n F (R A).o*en lo (R B).o (R B).one k)):=by
   rw[ide,show Vo n F lo (R B).o (R B).one (F (R B).t)=Su n fun k=>Ln n F (R B).o (F (R B).t) k*en lo (R B).o (R B).one k from rfl,Int.sub_eq_add_neg,<-kXf,<-Jd,<-Jw,<-Jd]
   exact Xc fun k _=>by grind
  rw[e1]
  have:=Qqm (g:=fun _=>0) term
  rw[Yr (f:=fun _=>0) fun _ _=>rfl]at this
  exact this
 unfold lk et at bl
 rcases PB.br.sd with z | ⟨z,h⟩
 .rw[z]at bl tot
  rw[if_neg Dc]at bl
  have h1:=wr.1
  generalize Vo n F lo (R A).o (R A).one (F (R B).t)=x at *
  generalize Vo n F lo (R B).o (R B).one (F (R B).t)=y at *
  generalize scl n F (R A).o=a at *
  generalize scl n F (R B).o=b at *
  generalize lo (R B).t=l at *
  have q1:0<=b*(x-l*a):=jXf Om Om
  have q2:0<a*(l*b-y):=Int.mul_pos Om Om
  have q3:b*(x-l*a)+a*(l*b-y)=b*x-a*y:=by grind
  lia
 .rw[z]at bl tot
  rw[if_pos rfl]at bl
  have h1:=wr.2 h
  generalize Vo n F lo (R A).o (R A).one (F (R B).t)=x at *
  generalize Vo n F lo (R B).o (R B).one (F (R B).t)=y at *
  generalize scl n F (R A).o=a at *
  generalize scl n F (R B).o=b at *
  have q1:0<=b*(a-x):=jXf Om Om
  have q2:0<a*(y-b):=Int.mul_pos Om Om
  have q3:b*(a-x)+a*(y-b)=a*y-b*x:=by grind
  lia
end
def KK:Nat->Nat
 |0=>1
 |T+1=>2*KK T+1
theorem Qfp{p:Nat->Prop}{A:Nat}:∀d:Nat,(∃i,A<i/\i<=A+d/\p i)->∃B,A<B/\B<=A+d/\p B/\∀i,A<i->i<B->¬p i
 |0,⟨i,h1,h2,_⟩=>Om
 |d+1,⟨i,h1,h2,h3⟩=>by
  by_cases c:∃i,A<i/\i<=A+d/\p i
  .obtain⟨B,b1,b2,b3,b4⟩:=Qfp d c
   exact⟨B,b1,Om,b3,b4⟩
  .exact⟨i,h1,h2,h3,fun j j1 j2 j3=>c ⟨j,j1,Om,j3⟩⟩
section
variable{n N:Nat}{F:Nat->Nat->Int}{lo:Nat->Int}{cA cB:Nat->Int}{R:Nat->Rc}{len:Nat}
theorem Qct(hN:∀i,i+1<len->Nxt (R i) (R (i+1))){A:Nat}:∀d,A+1+d<len->(∀i,A<i->i<A+1+d->(R i).c≠(R A).c)->(R (A+1+d)).o (R A).c=(R A).t
 |0,h,_=>by
  show(R (A+1)).o _=_
  rw[(hN A Om).1,Xm]
 |d+1,h,hne=>by
  have ih:=Qct hN d Om fun i h1 h2=>hne i h1 Om
  have nc:=hne (A+1+d) Om Om
  show(R (A+1+d+1)).o _=_
  rw[(hN (A+1+d) Om).1,Xd (fun z=>nc z.symm),ih]
theorem Qeh(X:Fx n N F lo)(hP:∀i,i<len->Pl n N F lo cA cB (R i))(hN:∀i,i+1<len->Nxt (R i) (R (i+1))):∀T i0:Nat,(∀i,i0<=i->i<i0+KK T->(R i).t<T)->i0+KK T<=len->False
 |0,i0,h,hl=>by have h1:=h i0 (jY _) (by show i0<i0+1;lia);lia
 |T+1,i0,h,hl=>by
  have hk:KK (T+1)=2*KK T+1:=rfl
  rw[hk]at h hl
  by_cases c1:∀i,i0<=i->i<i0+KK T->(R i).t<T
  .exact Qeh X hP hN T i0 c1 Om
  .have⟨A,a1⟩:=Classical.not_forall.mp c1
   have⟨a2,a3⟩:=Classical.not_imp.mp a1
   have⟨a4,a5⟩:=Classical.not_imp.mp a3
   have tA:(R A).t=T:=by have:=h A a2 Om;lia
   by_cases c2:∀i,A+1<=i->i<A+1+KK T->(R i).t<T
   .exact Qeh X hP hN T (A+1) c2 Om
   .have⟨B',b1⟩:=Classical.not_forall.mp c2
    have⟨b2,b3⟩:=Classical.not_imp.mp b1
    have⟨b4,b5⟩:=Classical.not_imp.mp b3
    have tB:(R B').t=T:=by have:=h B' Om Om;lia
    have PB:=hP B' Om
    have PA:=hP A Om
    have ex:∃i,A<i/\i<=A+(B'-A-1)/\(R i).c=(R A).c:=Classical.byContradiction fun z=>by
     have e:=Qct hN (A:=A) (B'-(A+1)) Om fun i h1 h2 h3=>z ⟨i,h1,Om,h3⟩
     rw[show A+1+(B'-(A+1))=B' from by lia]at e
     exact PB.br.out X PB.st PA.cn (by rw[e,tA,tB])
    obtain⟨B,x1,x2,x3,x4⟩:=Qfp _ ex
    exact bland X x1 (fun i h1 h2=>hP i Om) (fun i h1 h2=>hN i Om) x3 x4 fun i h1 h2=>by
     have:=h i Om Om
     lia
theorem Qei(X:Fx n N F lo)(hP:∀i,i<len->Pl n N F lo cA cB (R i))(hN:∀i,i+1<len->Nxt (R i) (R (i+1))):len<KK N :=
 Nat.lt_of_not_le fun h=>Qeh X hP hN N 0 (fun i _ hi=>(hP i Om).br.tN) Om
end
def dg(o:Nat->Nat)(one:Nat->Bool)(k:Nat):Nat:=2*o k+(if one k=true then 1 else 0)
def cod(N:Nat)(o:Nat->Nat)(one:Nat->Bool):Nat->Nat
 |0=>0
 |k+1=>cod N o one k*(2*N)+dg o one k
theorem Qqy{N:Nat}{o:Nat->Nat}{one:Nat->Bool}{k:Nat}(h:o k<N):dg o one k<2*N:=by unfold dg;split<;>lia
theorem Qpf{N:Nat}{o:Nat->Nat}{one:Nat->Bool}:∀{k:Nat},(∀i,i<k->o i<N)->cod N o one k<(2*N) ^ k
 |0,_=>by show 0<1;lia
 |k+1,h=>by
  have h1:=Qpf (one:=one) (k:=k) fun i hi=>h i Om
  have h2:=Qqy (one:=one) (h k Om)
  show cod N o one k*(2*N)+dg o one k<(2*N) ^ k*(2*N)
  have h3:(cod N o one k+1)*(2*N)<=(2*N) ^ k*(2*N):=Nat.mul_le_mul_right _ h1
  rw[Nat.add_mul,Nat.one_mul]at h3
  lia
theorem Qih{N:Nat}{o o2:Nat->Nat}{one one2:Nat->Bool}:∀{k:Nat},(∀i,i<k->o i<N)->(∀i,i<k->o2 i<N)->cod N o one k=cod N o2 one2 k->∀i,i<k->o i=o2 i/\one i=one2 i
 |0,_,_,_,i,hi=>absurd hi (xK _)
 |k+1,h,h',e,i,hi=>by
  have e':cod N o one k*(2*N)+dg o one k=cod N o2 one2 k*(2*N)+dg o2 one2 k:=e
  have d1:=Qqy (one:=one) (h k Om)
  have d2:=Qqy (one:=one2) (h' k Om)
  have m:dg o one k=dg o2 one2 k:=by
   have:=congrArg (· % (2*N)) e'
   simp only[Nat.mul_add_mod_self_right,Nat.mod_eq_of_lt d1,Nat.mod_eq_of_lt d2]at this
   exact this
  by_cases c:i=k
  .subst c
   unfold dg at m
   constructor
   .split at m<;>split at m<;>lia
   .cases c1:one i<;>cases c2:one2 i<;>rw[c1,c2]at m<;>first | rfl | (simp only[if_true,kJa,if_false]at m;lia)
  .have q:cod N o one k=cod N o2 one2 k:=by
    rw[m]at e'
    exact Nat.eq_of_mul_eq_mul_right Om (Nat.add_right_cancel e')
   exact Qih (fun i hi=>h i Om) (fun i hi=>h' i Om) q i Om
def cnt(Vs:List Nat):Nat->Nat
 |0=>0
 |M+1=>cnt Vs M+(if M∈Vs then 0 else 1)
theorem Qpg{v:Nat}{Vs:List Nat}:∀M:Nat,cnt (v::Vs) M<=cnt Vs M
 |0=>jY _
 |M+1=>by
  have:=Qpg (v:=v) (Vs:=Vs) M
  show cnt (v::Vs) M+_<=cnt Vs M+_
  by_cases c:M∈Vs
  .rw[if_pos c,if_pos (yZ _ c)];lia
  .rw[if_neg c];split<;>lia
theorem Qii{v:Nat}{Vs:List Nat}(hv:v∉Vs):∀{M:Nat},v<M->cnt (v::Vs) M<cnt Vs M
 |0,h=>absurd h (xK _)
 |M+1,h=>by
  show cnt (v::Vs) M+_<cnt Vs M+_
  by_cases c:v=M
  .subst c
   have:=Qpg (v:=v) (Vs:=Vs) v
   rw[if_pos (yV ..),if_neg hv]
   lia
  .have:=Qii hv (M:=M) Om
   by_cases c2:M∈Vs
   .rw[if_pos c2,if_pos (yZ _ c2)];lia
   .rw[if_neg c2,if_neg (fun z=>by
     rcases kQ.mp z with y | y
     .omega
     .exact c2 y)];lia
section
variable{n N:Nat}{F:Nat->Nat->Int}{lo:Nat->Int}{cA cB:Nat->Int}
def OLe(n:Nat)(F:Nat->Nat->Int)(lo:Nat->Int)(cA cB:Nat->Int)(o:Nat->Nat)(one:Nat->Bool)(o2:Nat->Nat)(one2:Nat->Bool):Prop:=Lx (dO n F lo cA o one o2 one2) (dO n F lo cB o one o2 one2)
def OLt(n:Nat)(F:Nat->Nat->Int)(lo:Nat->Int)(cA cB:Nat->Int)(o:Nat->Nat)(one:Nat->Bool)(o2:Nat->Nat)(one2:Nat->Bool):Prop:=OLe n F lo cA cB o one o2 one2/\¬(dO n F lo cA o one o2 one2=0/\dO n F lo cB o one o2 one2=0)
theorem OLe.trans{o o1 o2:Nat->Nat}{m m1 m2:Nat->Bool}(b:0<scl n F o)(b1:0<scl n F o1)(b2:0<scl n F o2)(h:OLe n F lo cA cB o m o1 m1)(h':OLe n F lo cA cB o1 m1 o2 m2):OLe n F lo cA cB o m o2 m2:=by
 refine Lx.of_mul b1 ?_
 have e1:=Ka (n:=n) (F:=F) (lo:=lo) (o1:=o) (o2:=o1) (o3:=o2) (n1:=m) (n2:=m1) (n3:=m2) cA
 have e2:=Ka (n:=n) (F:=F) (lo:=lo) (o1:=o) (o2:=o1) (o3:=o2) (n1:=m) (n2:=m1) (n3:=m2) cB
 rw[e1,e2]
 exact Lx.add (Lx.mul b2 h) (Lx.mul b h')
theorem OLt.trans{o o1 o2:Nat->Nat}{m m1 m2:Nat->Bool}(b:0<scl n F o)(b1:0<scl n F o1)(b2:0<scl n F o2)(h:OLt n F lo cA cB o m o1 m1)(h':OLe n F lo cA cB o1 m1 o2 m2):OLt n F lo cA cB o m o2 m2:=by
 refine⟨h.1.trans b b1 b2 h',fun⟨z1,z2⟩=>h.2 ?_⟩
 have e1:=Ka (n:=n) (F:=F) (lo:=lo) (o1:=o) (o2:=o1) (o3:=o2) (n1:=m) (n2:=m1) (n3:=m2) cA
 have e2:=Ka (n:=n) (F:=F) (lo:=lo) (o1:=o) (o2:=o1) (o3:=o2) (n1:=m) (n2:=m1) (n3:=m2) cB
 rw[z1,zV]at e1
 rw[z2,zV]at e2
 have l1:=Lx.mul b2 h.1
 have l2:=Lx.mul b h'
 unfold Lx at l1 l2
 have y1:scl n F o2*dO n F lo cA o m o1 m1=0:=Om
 have y2:scl n F o2*dO n F lo cB o m o1 m1=0:=Om
 refine⟨?_,?_⟩
 .rcases jXb.mp y1 with y | y
  .omega
  .exact y
 .rcases jXb.mp y2 with y | y
  .omega
  .exact y
theorem Qij{o o2:Nat->Nat}(h:∀k,k<n->o k=o2 k):scl n F o=scl n F o2:=by
 have e:dD n F o=dD n F o2:=Je fun i hi j _=>by rw[h i hi]
 unfold scl sD
 rw[e]
theorem Qik{o o2:Nat->Nat}(h:∀k,k<n->o k=o2 k)(g:Nat->Int)(k:Nat):Ln n F o g k=Ln n F o2 g k:=by
 have e:dD n F o=dD n F o2:=Je fun i hi j _=>by rw[h i hi]
 unfold Ln sD
 rw[e,Je (w:=up (fun k=>F (o2 k)) k g) fun i hi j _=>by
  by_cases z:i=k
  .rw[z,Xm,Xm]
  .rw[Xd z,Xd z,h i hi]]
theorem Qmq{o o2:Nat->Nat}{m m2:Nat->Bool}(h:∀k,k<n->o k=o2 k/\m k=m2 k)(g:Nat->Int):Vo n F lo o m g=Vo n F lo o2 m2 g:=by
 refine Xc fun k hk=>?_
 rw[Qik (fun k hk=>(h k hk).1)]
 unfold en
 rw[(h k hk).1,(h k hk).2]
theorem Qfq{o o2:Nat->Nat}{m m2:Nat->Bool}(h:∀k,k<n->o k=o2 k/\m k=m2 k)(g:Nat->Int)(o3:Nat->Nat)(m3:Nat->Bool):dO n F lo g o m o3 m3=dO n F lo g o2 m2 o3 m3:=by
 unfold dO
 rw[Qij (fun k hk=>(h k hk).1),Qmq h]
theorem Qil{o:Nat->Nat}{m:Nat->Bool}(g:Nat->Int):dO n F lo g o m o m=0:=kYc _
structure Pot(n N:Nat)(F:Nat->Nat->Int)(lo:Nat->Int)(cA cB:Nat->Int)(m idle:Nat)(o:Nat->Nat)(one:Nat->Bool):Prop where
 ex:∃(Vs:List Nat) (R:Nat->Rc) (len:Nat),(∀v∈Vs,∀o1 one1,Stt n N F o1 one1->cod N o1 one1 n=v->OLt n F lo cA cB o1 one1 o one)/\(∀i,i<len->Pl n N F lo cA cB (R i))/\(∀i,i+1<len->Nxt (R i) (R (i+1)))/\(0<len->100<=idle/\o=up (R (len-1)).o (R (len-1)).c (R (len-1)).t/\one=one' (R (len-1)).one (R (len-1)).c (R (len-1)).side) /\
  m=cnt Vs ((2*N) ^ n)*(KK N+102)+(100-idle)+(KK N-len)
theorem Qim(o:Nat->Nat)(one:Nat->Bool)(idle:Nat):∃m,Pot n N F lo cA cB m idle o one:=⟨_,⟨[],fun _=>⟨fun k=>k,fun _=>false,0,0,0⟩,0,(fun v hv=>absurd hv jZb),fun i hi=>absurd hi (xK _),fun i hi=>absurd hi (xK _),fun h=>absurd h (xK _),rfl⟩⟩
variable{m idle:Nat}{o o2:Nat->Nat}{one one2:Nat->Bool}
theorem Pot.gain(h:Pot n N F lo cA cB m idle o one)(S:Stt n N F o one)(S2:Stt n N F o2 one2)(g:OLt n F lo cA cB o one o2 one2):∃m',m'<m/\Pot n N F lo cA cB m' 0 o2 one2:=by
 obtain⟨Vs,R,len,h1,h2,h3,h4,h5⟩:=h.ex
 have nv:cod N o one n∉Vs:=fun z=>(h1 _ z o one S rfl).2 ⟨Qil _,Qil _⟩
 have lt:=Qii nv (Qpf (one:=one) S.th)
 refine⟨_,?_,⟨cod N o one n::Vs,R,0,fun v hv o1 one1 S1 e=>?_,fun i hi=>absurd hi (xK _),fun i hi=>absurd hi (xK _),fun h=>absurd h (xK _),rfl⟩⟩
 .rw[h5]
  generalize cnt (cod N o one n::Vs) ((2*N) ^ n)=a at *
  generalize cnt Vs ((2*N) ^ n)=b at *
  have h6:(a+1)*(KK N+102)<=b*(KK N+102):=Nat.mul_le_mul_right _ lt
  rw[Nat.add_mul]at h6
  lia
 .rcases kQ.mp hv with y | y
  .rw[y]at e
   have c:=Qih S1.th S.th e
   obtain⟨g1,g2⟩:=g
   unfold OLe at g1
   rw[<-Qfq c,<-Qfq c]at g1 g2
   exact⟨g1,g2⟩
  .exact(h1 v y o1 one1 S1 e).trans (Xp S1.ba) (Xp S.ba) (Xp S2.ba) g.1
theorem Pot.rest(h:Pot n N F lo cA cB m idle o one)(S:Stt n N F o one)(S2:Stt n N F o2 one2)(hi:idle<100)(g:OLe n F lo cA cB o one o2 one2):∃m',m'<m/\Pot n N F lo cA cB m' (idle+1) o2 one2:=by
 obtain⟨Vs,R,len,h1,h2,h3,h4,h5⟩:=h.ex
 have l0:len=0:=Classical.byContradiction fun z=>by have:=(h4 Om).1;lia
 subst l0
 refine⟨_,?_,⟨Vs,R,0,fun v hv o1 one1 S1 e=>(h1 v hv o1 one1 S1 e).trans (Xp S1.ba) (Xp S.ba) (Xp S2.ba) g,h2,h3,fun h=>absurd h (xK _),rfl⟩⟩
 rw[h5]
 lia
theorem Pot.plain(X:Fx n N F lo){t c:Nat}{side:Int}(h:Pot n N F lo cA cB m idle o one)(hi:100<=idle)(p:Pl n N F lo cA cB ⟨o,one,t,side,c⟩)(g:OLe n F lo cA cB o one (up o c t) (one' one c side)):∃m',m'<m/\Pot n N F lo cA cB m' (idle+1) (up o c t) (one' one c side):=by
 obtain⟨Vs,R,len,h1,h2,h3,h4,h5⟩:=h.ex
 have S2:=p.st.up p.br p.cn p.hl
 have q1:∀i,i<len+1->Pl n N F lo cA cB ((Nb.up R len ⟨o,one,t,side,c⟩) i):=fun i hi=>by
  by_cases z:i=len
  .rw[z,Xm];exact p
  .rw[Xd z];exact h2 i Om
 have q2:∀i,i+1<len+1->Nxt ((Nb.up R len ⟨o,one,t,side,c⟩) i) ((Nb.up R len ⟨o,one,t,side,c⟩) (i+1)):=fun i hi=>by
  rw[Xd (by lia:i≠len)]
  by_cases z:i+1=len
  .rw[z,Xm]
   obtain⟨_,e1,e2⟩:=h4 Om
   rw[show len-1=i from by lia]at e1 e2
   exact⟨e1,e2⟩
  .rw[Xd z];exact h3 i Om
 have q3:=Qei X q1 q2
 refine⟨_,?_,⟨Vs,Nb.up R len ⟨o,one,t,side,c⟩,len+1,fun v hv o1 one1 S1 e=>(h1 v hv o1 one1 S1 e).trans (Xp S1.ba) (Xp p.st.ba) (Xp S2.ba) g,q1,q2,fun _=>⟨Om,?_⟩,rfl⟩⟩
 .rw[h5]
  lia
 .rw[show len+1-1=len from by lia,Xm]
  exact⟨rfl,rfl⟩
end
section
variable{n N:Nat}{F:Nat->Nat->Int}{lo:Nat->Int}{cA cB:Nat->Int}{o:Nat->Nat}{one one0:Nat->Bool}{t c:Nat}{side:Int}
def nrr(n:Nat)(F:Nat->Nat->Int)(cA cB:Nat->Int)(o:Nat->Nat)(one:Nat->Bool)(t k c:Nat):Prop :=
 pq n F o one cA k*ab (Ln n F o (F t) c)<pq n F o one cA c*ab (Ln n F o (F t) k)\/(pq n F o one cA k*ab (Ln n F o (F t) c)=pq n F o one cA c*ab (Ln n F o (F t) k) /\
 (pq n F o one cB k*ab (Ln n F o (F t) c)<pq n F o one cB c*ab (Ln n F o (F t) k)\/(pq n F o one cB k*ab (Ln n F o (F t) c)=pq n F o one cB c*ab (Ln n F o (F t) k)/\o k<o c)))
theorem Qqz{k:Nat}:¬nrr n F cA cB o one t k k:=by unfold nrr;lia
theorem Qfr{a b c x y z:Int}(hx:0<x)(hy:0<y)(hz:0<z)(h1:a*y<=b*x)(h2:b*z<=c*y):a*z<=c*x/\(a*z=c*x->a*y=b*x/\b*z=c*y):=by
 have e1:y*(c*x-a*z)=z*(b*x-a*y)+x*(c*y-b*z):=by grind
 have p1:0<=z*(b*x-a*y):=jXf Om Om
 have p2:0<=x*(c*y-b*z):=jXf Om Om
 refine⟨?_,fun e=>?_⟩
 .have:0<=(c*x-a*z):=jZf (a:=c*x-a*z) (b:=y) (by rw[wX];lia) hy
  lia
 .have e3:c*x-a*z=0:=Om
  rw[e3,zV]at e1
  have z1:z*(b*x-a*y)=0:=by omega
  have z2:x*(c*y-b*z)=0:=by omega
  constructor
  .rcases jXb.mp z1 with y | y<;>lia
  .rcases jXb.mp z2 with y | y<;>omega
theorem Qin{a b c:Nat}(ha:Ln n F o (F t) a≠0)(hb:Ln n F o (F t) b≠0)(hc:Ln n F o (F t) c≠0)(h1:nrr n F cA cB o one t a b)(h2:nrr n F cA cB o one t b c):nrr n F cA cB o one t a c:=by
 unfold nrr at *
 have pa:=Qid ha
 have pb:=Qid hb
 have pc:=Qid hc
 have A:=Qfr (a:=pq n F o one cA a) (b:=pq n F o one cA b) (c:=pq n F o one cA c) pa pb pc Om Om
 by_cases e:pq n F o one cA a*ab (Ln n F o (F t) c)=pq n F o one cA c*ab (Ln n F o (F t) a)
 .obtain⟨e1,e2⟩:=A.2 e
  have B:=Qfr (a:=pq n F o one cB a) (b:=pq n F o one cB b) (c:=pq n F o one cB c) pa pb pc Om Om
  by_cases f:pq n F o one cB a*ab (Ln n F o (F t) c)=pq n F o one cB c*ab (Ln n F o (F t) a)
  .obtain⟨f1,f2⟩:=B.2 f
   lia
  .omega
 .omega
def Bst(n:Nat)(F:Nat->Nat->Int)(cA cB:Nat->Int)(o:Nat->Nat)(one:Nat->Bool)(t:Nat)(side:Int)(m:Nat):Option Nat->Prop
 |none=>∀k,k<m->¬0<hp n F o one t side k
 |some c=>c<m/\0<hp n F o one t side c/\∀k,k<m->0<hp n F o one t side k->¬nrr n F cA cB o one t k c
theorem Bst.zero:Bst n F cA cB o one t side 0 none:=fun k hk=>absurd hk (xK _)
theorem Bst.stay{m:Nat}{f:Option Nat}(h:Bst n F cA cB o one t side m f)(hm:¬(0<hp n F o one t side m/\∀c,f=some c->nrr n F cA cB o one t m c)):Bst n F cA cB o one t side (m+1) f:=by
 cases f with
 |none=>
  intro k hk
  by_cases e:k=m
  .subst e
   exact fun z=>hm ⟨z,fun c e=>nomatch e⟩
  .exact h k Om
 |some c=>
  refine⟨by have:=h.1;lia,h.2.1,fun k hk hh=>?_⟩
  by_cases e:k=m
  .subst e
   exact fun z=>hm ⟨hh,fun c' e'=>by cases e';exact z⟩
  .exact h.2.2 k Om hh
theorem Bst.take{m:Nat}{f:Option Nat}(h:Bst n F cA cB o one t side m f)(hh:0<hp n F o one t side m)(hm:∀c,f=some c->nrr n F cA cB o one t m c):Bst n F cA cB o one t side (m+1) (some m):=by
 refine⟨Om,hh,fun k hk hk2=>?_⟩
 by_cases e:k=m
 .subst e;exact Qqz
 .cases f with
  |none=>exact absurd hk2 (h k Om)
  |some c=>exact fun z=>h.2.2 k Om hk2 (Qin (Kt hk2) (Kt hh) (Kt h.2.1) z (hm c rfl))
def Rat(n:Nat)(F:Nat->Nat->Int)(cA cB:Nat->Int)(o:Nat->Nat)(one:Nat->Bool)(t:Nat)(side:Int)(k j:Nat):Prop :=
 Lx (pq n F o one cA j*hp n F o one t side k-pq n F o one cA k*hp n F o one t side j) (pq n F o one cB j*hp n F o one t side k-pq n F o one cB k*hp n F o one t side j)
structure Flp(n N:Nat)(F:Nat->Nat->Int)(lo:Nat->Int)(cA cB:Nat->Int)(o:Nat->Nat)(one0 one:Nat->Bool)(t:Nat)(side:Int):Prop where
 st:Stt n N F o one
 br:Brk n N F lo o one t side
 mv:∀k,k<n->one k=one0 k\/(one k=(!one0 k)/\0<hp n F o one0 t side k/\∀j,j<n->one j=one0 j->0<hp n F o one0 t side j->Rat n F cA cB o one0 t side k j)
 ob:OLe n F lo cA cB o one0 o one
theorem Qgw{k:Nat}(h:one k=one0 k):hp n F o one t side k=hp n F o one0 t side k:=by unfold hp sx;rw[h]
theorem Qph{k:Nat}(h:one k=(!one0 k)):hp n F o one t side k=- hp n F o one0 t side k:=by
 unfold hp sx
 rw[h]
 cases one0 k
 .show -1*_*_=-(1*_*_);grind
 .show 1*_*_=-(-1*_*_);grind
theorem Vv{k:Nat}{g:Nat->Int}(h:one k=one0 k):pq n F o one g k=pq n F o one0 g k:=by unfold pq sx;rw[h]
theorem Qpi{k:Nat}{g:Nat->Int}(h:one k=(!one0 k)):pq n F o one g k=- pq n F o one0 g k:=by
 unfold pq sx
 rw[h]
 cases one0 k
 .show -1*_=-(1*_);grind
 .show 1*_=-(-1*_);grind
theorem Flp.start(S:Stt n N F o one0)(B:Brk n N F lo o one0 t side):Flp n N F lo cA cB o one0 one0 t side:=⟨S,B,fun _ _=>.inl rfl,.inr ⟨kYc _,by rw[show dO n F lo cB o one0 o one0=0 from kYc _];exact jYe _⟩⟩
theorem Flp.same(h:Flp n N F lo cA cB o one0 one t side){k:Nat}(hk:k<n)(hh:0<hp n F o one t side k):one k=one0 k:=by
 rcases h.mv k hk with z | ⟨z,z2,_⟩
 .exact z
 .rw[Qph z]at hh;lia
theorem Qpj(hs:side=1\/(side=-1/\t<n)){k:Nat}(hc:0<hp n F o one t side c)(hk:0<hp n F o one t side k)(h:¬nrr n F cA cB o one t k c):Rat n F cA cB o one t side c k:=by
 unfold nrr at h
 unfold Rat Lx
 rw[(Qbf hs hc).1,(Qbf hs hk).1]at h
 lia
theorem Rat.swap{one:Nat->Bool}{k j:Nat}(h:Rat n F cA cB o one t side k j)(ek:one k=one0 k)(ej:one j=one0 j):Rat n F cA cB o one0 t side k j:=by
 unfold Rat at *
 rw[<-Vv ek,<-Vv ek,<-Vv ej,<-Vv ej,<-Qgw ek,<-Qgw ej]
 exact h
theorem Flp.near(D:Dual n F cA cB o one0)(h:Flp n N F lo cA cB o one0 one t side)(b:Bst n F cA cB o one t side n (some c)):NearC n F cA cB o one t side c/\Lx (pq n F o one cA c) (pq n F o one cB c):=by
 obtain⟨hc,hh,hm⟩:=b
 have ec:=h.same hc hh
 have q0:Lx (pq n F o one cA c) (pq n F o one cB c):=by rw[Vv ec,Vv ec];exact D c hc
 refine⟨fun k hk ne=>?_,q0⟩
 rcases h.mv k hk with z | ⟨z,z1,z2⟩
 .by_cases p:0<hp n F o one t side k
  .have r:=Qpj h.br.sd hh p (hm k hk p)
   unfold Rat at r
   rw[wX (hp n F o one t side c),wX (hp n F o one t side c)]
   exact r
  .have dk:Lx (pq n F o one cA k) (pq n F o one cB k):=by rw[Vv z,Vv z];exact D k hk
   have l1:=Lx.mul hh dk
   have l2:=Lx.mul0 (s:=- hp n F o one t side k) Om q0
   have l3:=Lx.add l1 l2
   have e1:∀x y:Int,x + - hp n F o one t side k*y=x-y*hp n F o one t side k:=fun x y=>by grind
   rw[e1,e1]at l3
   exact l3
 .have r:=z2 c hc ec (by rw[<-Qgw ec];exact hh)
  unfold Rat at r
  rw[<-Vv ec,<-Vv ec,<-Qgw ec]at r
  rw[Qpi z,Qpi z,Qph z]
  have e1:∀x y a b:Int,x * -y-a * -b=a*b-y*x:=fun x y a b=>by grind
  rw[e1,e1]
  exact r
theorem Flp.flip(X:Fx n N F lo)(D:Dual n F cA cB o one0)(h:Flp n N F lo cA cB o one0 one t side)(b:Bst n F cA cB o one t side n (some c))(ht:o c<n)(hl:ab (Ln n F o (F t) c)<ab (Vo n F lo o one (F t)-et lo t side*scl n F o)):Flp n N F lo cA cB o one0 (up one c (!one c)) t side:=by
 obtain⟨hc,hh,hm⟩:=b
 have ec:=h.same hc hh
 have sq:=Qqu (n:=n) (t:=t) h.br.sd
 have lkp:=h.br.lk
 refine⟨h.st.flip ht,⟨h.br.tN,h.br.sd,?_⟩,fun k hk=>?_,?_⟩
 .rw[(Qbf h.br.sd hh).1]at hl
  unfold lk at lkp⊢
  rw[Qbh X hc ht]
  have e:hp n F o one t side c=sx one c*Ln n F o (F t) c*side:=rfl
  rw[e]at hl
  generalize sx one c*Ln n F o (F t) c=y at *
  generalize et lo t side*scl n F o=x at *
  generalize Vo n F lo o one (F t)=v at *
  unfold ab at hl
  rcases h.br.sd with z | ⟨z,_⟩<;>subst z<;>split at hl<;>lia
 .by_cases z:k=c
  .subst z
   rw[Xm]
   refine .inr ⟨by rw[ec],by rw[<-Qgw ec];exact hh,fun j hj ej hj2=>?_⟩
   by_cases y:j=k
   .subst y
    rw[Xm,ec]at ej
    cases e:one0 j<;>rw[e]at ej<;>cases ej
   .rw[Xd y]at ej
    have p:0<hp n F o one t side j:=by rw[Qgw ej];exact hj2
    exact Rat.swap (Qpj h.br.sd hh p (hm j hj p)) ec ej
  .rw[Xd z]
   rcases h.mv k hk with y | ⟨y,y1,y2⟩
   .exact .inl y
   .refine .inr ⟨y,y1,fun j hj ej hj2=>y2 j hj ?_ hj2⟩
    by_cases w:j=c
    .subst w;exact ec
    .rw[Xd w]at ej;exact ej
 .have s0:=Xp h.st.ba
  refine h.ob.trans s0 s0 s0 ?_
  have e:∀g:Nat->Int,dO n F lo g o one o (up one c (!one c))=scl n F o*pq n F o one g c:=fun g=>by
   unfold dO
   rw[Qbh X hc ht]
   unfold pq
   grind
  unfold OLe
  rw[e,e]
  refine Lx.mul s0 ?_
  rw[Vv ec,Vv ec]
  exact D c hc
theorem OLe.trans_lt{o o1 o2:Nat->Nat}{m m1 m2:Nat->Bool}(b:0<scl n F o)(b1:0<scl n F o1)(b2:0<scl n F o2)(h:OLe n F lo cA cB o m o1 m1)(h':OLt n F lo cA cB o1 m1 o2 m2):OLt n F lo cA cB o m o2 m2:=by
 refine⟨h.trans b b1 b2 h'.1,fun⟨z1,z2⟩=>h'.2 ?_⟩
 have e1:=Ka (n:=n) (F:=F) (lo:=lo) (o1:=o) (o2:=o1) (o3:=o2) (n1:=m) (n2:=m1) (n3:=m2) cA
 have e2:=Ka (n:=n) (F:=F) (lo:=lo) (o1:=o) (o2:=o1) (o3:=o2) (n1:=m) (n2:=m1) (n3:=m2) cB
 rw[z1,zV]at e1
 rw[z2,zV]at e2
 have l1:=Lx.mul b2 h
 have l2:=Lx.mul b h'.1
 unfold Lx at l1 l2
 have y1:scl n F o*dO n F lo cA o1 m1 o2 m2=0:=Om
 have y2:scl n F o*dO n F lo cB o1 m1 o2 m2=0:=Om
 refine⟨?_,?_⟩
 .rcases jXb.mp y1 with y | y
  .omega
  .exact y
 .rcases jXb.mp y2 with y | y
  .omega
  .exact y
structure Stp(n N:Nat)(F:Nat->Nat->Int)(lo:Nat->Int)(cA cB:Nat->Int)(o:Nat->Nat)(one0 one:Nat->Bool)(t:Nat)(side:Int)(c:Nat):Prop where
 fl:Flp n N F lo cA cB o one0 one t side
 be:Bst n F cA cB o one t side n (some c)
theorem Stp.next(D:Dual n F cA cB o one0)(h:Stp n N F lo cA cB o one0 one t side c):Stt n N F (up o c t) (one' one c side)/\Dual n F cA cB (up o c t) (one' one c side):=by
 obtain⟨n1,n2⟩:=h.fl.near D h.be
 exact⟨h.fl.st.up h.fl.br h.be.1 h.be.2.1,Qig h.fl.st h.fl.br h.be.1 h.be.2.1 n2 n1⟩
theorem pq_zero{k:Nat}{g:Nat->Int}:pq n F o one g k=0↔Ln n F o g k=0:=by
 unfold pq sx
 split<;>lia
theorem Stp.gains(D:Dual n F cA cB o one0)(S0:Stt n N F o one0)(h:Stp n N F lo cA cB o one0 one t side c)(ni:¬(Ln n F o cA c=0/\Ln n F o cB c=0)):OLt n F lo cA cB o one0 (up o c t) (one' one c side):=by
 have⟨S2,_⟩:=h.next D
 have lp:=h.fl.br.lk
 refine h.fl.ob.trans_lt (Xp S0.ba) (Xp S0.ba) (Xp S2.ba) ?_
 unfold OLt OLe
 rw[Qbg h.fl.st h.fl.br h.be.1 h.be.2.1,Qbg h.fl.st h.fl.br h.be.1 h.be.2.1,wX,wX (pq n F o one cB c)]
 refine⟨Lx.mul lp (h.fl.near D h.be).2,fun⟨z1,z2⟩=>ni ⟨(pq_zero (one:=one)).mp ?_,(pq_zero (one:=one)).mp ?_⟩⟩
 .rcases jXb.mp z1 with y | y
  .omega
  .exact y
 .rcases jXb.mp z2 with y | y
  .omega
  .exact y
theorem Stp.keeps(D:Dual n F cA cB o one0)(S0:Stt n N F o one0)(h:Stp n N F lo cA cB o one0 one t side c):OLe n F lo cA cB o one0 (up o c t) (one' one c side):=by
 have⟨S2,_⟩:=h.next D
 have lp:=h.fl.br.lk
 refine h.fl.ob.trans (Xp S0.ba) (Xp S0.ba) (Xp S2.ba) ?_
 unfold OLe
 rw[Qbg h.fl.st h.fl.br h.be.1 h.be.2.1,Qbg h.fl.st h.fl.br h.be.1 h.be.2.1,wX,wX (pq n F o one cB c)]
 exact Lx.mul lp (h.fl.near D h.be).2
theorem Stp.plain(h:Stp n N F lo cA cB o one one t side c)(hf:∀t',t'<t->Wi n F lo o one t')(zA:Ln n F o cA c=0)(zB:Ln n F o cB c=0):Pl n N F lo cA cB ⟨o,one,t,side,c⟩ :=
 ⟨h.fl.st,h.fl.br,h.be.1,h.be.2.1,hf,zA,zB,fun k hk hh kA kB=>kKa fun z=>h.be.2.2 k hk hh (.inr ⟨by rw[pq_zero.mpr kA,pq_zero.mpr zA,wQ,wQ],.inr ⟨by rw[pq_zero.mpr kB,pq_zero.mpr zB,wQ,wQ],z⟩⟩)⟩
theorem Pot.step(X:Fx n N F lo){m idle:Nat}(p:Pot n N F lo cA cB m idle o one0)(D:Dual n F cA cB o one0)(S0:Stt n N F o one0)(h:Stp n N F lo cA cB o one0 one t side c)(hpl:100<=idle->one=one0/\∀t',t'<t->Wi n F lo o one0 t') :
  ∃m',m'<m/\Pot n N F lo cA cB m' (if Ln n F o cA c=0/\Ln n F o cB c=0 then idle+1 else 0) (up o c t) (one' one c side):=by
 have⟨S2,_⟩:=h.next D
 by_cases z:Ln n F o cA c=0/\Ln n F o cB c=0
 .rw[if_pos z]
  by_cases hi:idle<100
  .exact p.rest S0 S2 hi (h.keeps D S0)
  .obtain⟨e,hf⟩:=hpl Om
   subst e
   exact p.plain X Om (h.plain hf z.1 z.2) (h.keeps D S0)
 .rw[if_neg z]
  exact p.gain S0 S2 (h.gains D S0 z)
end
def tm(n:Nat)(o:Nat->Nat)(z:Nat->Int)(i:Nat):Int:=Su n fun k=>if o k=n+i then z k else 0
def mn0(x:Int):Int:=if x<0 then x else 0
def bnd(n m:Nat)(F:Nat->Nat->Int)(lo:Nat->Int)(G:Nat->Int)(y:Nat->Int):Int:=Su m (fun i=>y i*lo (n+i))+Su n (fun j=>mn0 (G j-Su m fun i=>y i*F (n+i) j))
section
variable{n m:Nat}{F:Nat->Nat->Int}{lo:Nat->Int}{o:Nat->Nat}{one:Nat->Bool}{z:Nat->Int}
theorem Qpk(ho:∀k,k<n->o k<n+m)(w:Nat->Int):(Su m fun i=>tm n o z i*w (n+i))=Su n fun k=>if o k<n then 0 else z k*w (o k):=by
 unfold tm
 rw[show(Su m fun i=>(Su n fun k=>if o k=n+i then z k else 0)*w (n+i))=Su m fun i=>Su n fun k=>(if o k=n+i then z k else 0)*w (n+i)from Xc fun i _=>by
  rw[wX,<-Jd]
  exact Xc fun k _=>wX _ _,Wd]
 refine Xc fun k hk=>?_
 have h:=ho k hk
 by_cases c:o k<n
 .rw[if_pos c]
  exact Yr fun i _=>by rw[if_neg Om,wQ]
 .rw[if_neg c,Zc (k:=o k-n) Om fun i _ ne=>by rw[if_neg Om,wQ],if_pos Om,show n+(o k-n)=o k from by lia]
variable{N:Nat}
theorem Qio(X:Fx n N F lo)(hN:N=n+m)(S:Stt n N F o one){G:Nat->Int}{j:Nat}(hj:j<n)(hG:G j=Su n fun k=>z k*F (o k) j):G j-(Su m fun i=>tm n o z i*F (n+i) j)=Su n fun k=>if o k=j then z k else 0:=by
 subst hN
 rw[Qpk S.th (fun t=>F t j),hG,Int.sub_eq_add_neg,<-jQa (Su n fun k=>if o k<n then 0 else _),<-kXf,<-Jd,<-Jw]
 refine Xc fun k hk=>?_
 by_cases c:o k<n
 .rw[if_pos c,X.F1 _ c]
  by_cases e:o k=j
  .rw[if_pos e,if_pos e];lia
  .rw[if_neg e,if_neg e];lia
 .rw[if_neg c,if_neg Om]
  grind
theorem bnd_eq(X:Fx n N F lo)(hN:N=n+m)(S:Stt n N F o one){G:Nat->Int}(hG:∀j,j<n->G j=Su n fun k=>z k*F (o k) j)(hz:∀k,k<n->(one k=true->z k<=0)/\(one k=false->0<=z k)):bnd n m F lo G (tm n o z)=Su n fun k=>z k*en lo o one k:=by
 have h1:(Su n fun j=>mn0 (G j-Su m fun i=>tm n o z i*F (n+i) j))=Su n fun j=>Su n fun k=>if o k=j then(if one k=true then z k else 0)else 0:=by
  refine Xc fun j hj=>?_
  rw[Qio X hN S hj (hG j hj)]
  by_cases e:∃k,k<n/\o k=j
  .obtain⟨k,hk,ek⟩:=e
   rw[Zc (k:=k) hk fun i hi ne=>if_neg fun y=>ne (S.ba.inj hi hk (y.trans ek.symm)),Zc (k:=k) hk fun i hi ne=>if_neg fun y=>ne (S.ba.inj hi hk (y.trans ek.symm)),if_pos ek,if_pos ek]
   have:=hz k hk
   unfold mn0
   cases c:one k with
   |true=>
    have:=this.1 c
    rw[if_pos rfl]
    split<;>lia
   |false=>
    have:=this.2 c
    rw[if_neg (show ¬false=true from fun z=>nomatch z),if_neg (show ¬z k<0 by lia)]
  .rw[Yr fun k hk=>if_neg fun y=>e ⟨k,hk,y⟩,Yr fun k hk=>if_neg fun y=>e ⟨k,hk,y⟩]
   rfl
 unfold bnd
 rw[h1,Wd,Qpk (fun k hk=>hN▸S.th k hk),<-Jw]
 refine Xc fun k hk=>?_
 unfold en
 by_cases c:o k<n
 .rw[if_pos c,Zc (k:=o k) c fun j _ ne=>if_neg fun y=>ne y.symm,if_pos rfl,X.l0 _ c]
  by_cases e:one k=true
  .rw[if_pos e,if_pos e];lia
  .rw[if_neg e,if_neg e];lia
 .rw[if_neg c,Yr fun j hj=>if_neg Om,if_neg (fun e=>c (S.ch k hk e)),wJ]
variable{cA cB:Nat->Int}{t:Nat}{side:Int}
theorem Lx.fst{a b:Int}(h:Lx a b):0<=a:=by unfold Lx at h;lia
theorem Qcu(D:Dual n F cA cB o one){k:Nat}(hk:k<n):(one k=true->Ln n F o cA k<=0)/\(one k=false->0<=Ln n F o cA k):=by
 have h:=(D k hk).fst
 unfold pq sx at h
 constructor<;>intro e<;>rw[e]at h
 .rw[if_pos rfl]at h;lia
 .rw[if_neg Dc]at h;lia
theorem Wf(S:Stt n N F o one)(hz:∀k,k<n->one k=false->0<=z k)(i:Nat):0<=tm n o z i:=by
 unfold tm
 have:Su n (fun _=>0)<=_:=Qqm (f:=fun _=>0) (g:=fun k=>if o k=n+i then z k else 0) fun k hk=>by
  show(0:Int)<=if o k=n+i then z k else 0
  by_cases e:o k=n+i
  .rw[if_pos e]
   refine hz k hk ?_
   cases c:one k with
   |false=>rfl
   |true=>have:=S.ch k hk c;lia
  .rw[if_neg e];exact jYe _
 rw[Yr (f:=fun _=>0) fun _ _=>rfl]at this
 exact this
theorem Qip(X:Fx n N F lo)(g:Nat->Int):(Su n fun j=>g j*Vo n F lo o one (F j))=Vo n F lo o one g:=(Qmn X.F1 g).symm
def ty(n:Nat)(F:Nat->Nat->Int)(o:Nat->Nat)(t:Nat)(side:Int)(i:Nat):Int:=if t=n+i then scl n F o else tm n o (fun k=>-side*Ln n F o (F t) k) i
theorem Qiq(h:∀k,k<n->¬0<hp n F o one t side k){k:Nat}(hk:k<n):(one k=true->-side*Ln n F o (F t) k<=0)/\(one k=false->0<=-side*Ln n F o (F t) k):=by
 have:=h k hk
 unfold hp sx at this
 have e:Ln n F o (F t) k*side=side*Ln n F o (F t) k:=wX _ _
 constructor<;>intro c<;>rw[c]at this
 .rw[if_pos rfl]at this
  have e2:-1*Ln n F o (F t) k*side=- (Ln n F o (F t) k*side):=by grind
  rw[e2]at this
  rw[kXf];lia
 .rw[if_neg Dc,jQa]at this
  rw[kXf];lia
theorem Qir(S:Stt n N F o one)(h:∀k,k<n->¬0<hp n F o one t side k)(i:Nat):0<=ty n F o t side i:=by
 unfold ty
 split
 .have:=Xp S.ba;lia
 .exact Wf S (fun k hk=>(Qiq h hk).2) i
theorem Qmr(X:Fx n N F lo)(hN:N=n+m)(S:Stt n N F o one)(B:Brk n N F lo o one t side)(h:∀k,k<n->¬0<hp n F o one t side k):bnd n m F lo (fun _=>0) (ty n F o t side)=lk n F lo o one t side:=by
 have hz:=fun k (hk:k<n)=>Qiq h hk
 have eV:(Su n fun k=>-side*Ln n F o (F t) k*en lo o one k)=-side*Vo n F lo o one (F t):=by
  unfold Vo Vl
  rw[<-Jd]
  exact Xc fun k _=>kYf _ _ _
 have eG:∀j,j<n->-side*(scl n F o*F t j)=Su n fun k=>-side*Ln n F o (F t) k*F (o k) j:=fun j hj=>by
  rw[S.ba.id (F t) j hj,<-Jd]
  exact Xc fun k _=>(kYf _ _ _).symm
 have key:=bnd_eq X hN S (z:=fun k=>-side*Ln n F o (F t) k) (G:=fun j=>-side*(scl n F o*F t j)) eG hz
 rw[eV]at key
 have out:∀k,k<n->o k≠t:=fun k hk=>B.out X S hk
 by_cases c:t<n
 .-- a choice
  have ety:ty n F o t side=tm n o (fun k=>-side*Ln n F o (F t) k):=by
   funext i
   exact if_neg Om
  rw[ety]
  unfold bnd at key⊢
  dsimp only at key
  have e0:(Su m fun i=>tm n o (fun k=>-side*Ln n F o (F t) k) i*F (n+i) t)=-side*scl n F o:=by
   have r:=Qio X hN S (z:=fun k=>-side*Ln n F o (F t) k) (G:=fun j=>-side*(scl n F o*F t j)) c (eG t c)
   rw[Yr fun k hk=>if_neg (out k hk),X.F1 _ c,if_pos rfl,jKe]at r
   omega
  have e1:(Su n fun j=>mn0 (0-Su m fun i=>tm n o (fun k=>-side*Ln n F o (F t) k) i*F (n+i) j))=mn0 (side*scl n F o)+Su n fun j=>mn0 (-side*(scl n F o*F t j)-Su m fun i=>tm n o (fun k=>-side*Ln n F o (F t) k) i*F (n+i) j):=by
   rw[Ks c,Ks (f:=fun j=>mn0 (-side*(scl n F o*F t j)-Su m fun i=>tm n o (fun k=>-side*Ln n F o (F t) k) i*F (n+i) j)) c]
   rw[e0,X.F1 _ c t,if_pos rfl,jKe,kYc,show(0:Int) - -side*scl n F o=side*scl n F o from by grind,show mn0 0=0 from rfl,jZe]
   congr 1
   refine Xc fun j hj=>?_
   by_cases e:j=t
   .rw[if_pos e,if_pos e]
   .rw[if_neg e,if_neg e,X.F1 _ c j,if_neg (fun y=>e y.symm),zV,zV]
  rw[e1]
  have sp:=Xp S.ba
  unfold lk et
  unfold mn0 at *
  rcases B.sd with y | ⟨y,_⟩
  .subst y
   rw[if_neg (by decide:¬(1:Int)=-1),X.l0 _ c,if_neg (show ¬1*scl n F o<0 by lia)]
   lia
  .subst y
   rw[if_pos rfl,if_pos (show -1*scl n F o<0 by lia)]
   lia
 .have hs:side=1:=B.sd.resolve_right fun y=>c y.2
  subst hs
  have hy:∀w:Nat->Int,(Su m fun i=>ty n F o t 1 i*w (n+i))=scl n F o*w t+Su m fun i=>tm n o (fun k=>-1*Ln n F o (F t) k) i*w (n+i):=fun w=>by
   have ht:=B.tN
   have e:∀i,ty n F o t 1 i*w (n+i)=(if i=t-n then scl n F o*w t else 0)+tm n o (fun k=>-1*Ln n F o (F t) k) i*w (n+i):=fun i=>by
    unfold ty
    by_cases y:t=n+i
    .rw[if_pos y,if_pos Om,<-y]
     have:tm n o (fun k=>-1*Ln n F o (F t) k) i=0:=Yr fun k hk=>if_neg fun q=>out k hk (q.trans y.symm)
     rw[this,wQ,wJ]
    .rw[if_neg y,if_neg Om,jZe]
   rw[Xc fun i _=>e i,Jw,Zc (k:=t-n) Om fun i _ ne=>if_neg ne,if_pos rfl]
  unfold bnd at key⊢
  dsimp only at key
  rw[hy lo]
  have e2:(Su n fun j=>mn0 (0-Su m fun i=>ty n F o t 1 i*F (n+i) j))=Su n fun j=>mn0 (-1*(scl n F o*F t j)-Su m fun i=>tm n o (fun k=>-1*Ln n F o (F t) k) i*F (n+i) j):=Xc fun j _=>by
   rw[hy fun s=>F s j]
   congr 1
   lia
  rw[e2]
  unfold lk et
  rw[if_neg (by decide:¬(1:Int)=-1)]
  have:scl n F o*lo t=lo t*scl n F o:=wX _ _
  lia
end
end Nb
namespace L2
open PySem PySem.Spec PyProof.Rows
abbrev Key:=Sum Int Str
def Qej:Key->Value->Bool
 |.inl k,v=>Value.isInt k v
 |.inr x,v=>Value.isStrOf x v
def keyH(w:World):Key->Int
 |.inl k=>hashInt k
 |.inr x=>hashStr w x
theorem Yc:∀{k:Key} {v:Value},Qej k v=true->(∃i t,k=Sum.inl i/\v=Value.int i t)\/(∃x t,k=Sum.inr x/\v=Value.str x t)
 |.inl i,v,h=>by
  obtain⟨t,e⟩:=Value.isInt_shape (k:=i) (v:=v) h
  exact .inl ⟨i,t,rfl,e⟩
 |.inr x,v,h=>by
  obtain⟨t,e⟩:=Value.isStrOf_shape (x:=x) (v:=v) h
  exact .inr ⟨x,t,rfl,e⟩
theorem Qis(i:Int)(t:Tok):Qej (.inl i) (.int i t)=true:=by simp[Qej,Value.isInt]
theorem Qit(x:Str)(t:Tok):Qej (.inr x) (.str x t)=true:=by simp[Qej,Value.isStrOf]
theorem key_ll(a b:Int):decide ((Sum.inl a:Key)=Sum.inl b)=(a == b):=by
 by_cases e:a=b
 .subst e;simp
 .have h:¬(Sum.inl a:Key)=Sum.inl b:=fun q=>e (Sum.inl.inj q)
  rw[jQe h]
  exact(beq_eq_false_iff_ne.mpr e).symm
theorem key_rr(a b:Str):decide ((Sum.inr a:Key)=Sum.inr b)=decide (a=b):=by
 by_cases e:a=b
 .subst e;simp
 .have h:¬(Sum.inr a:Key)=Sum.inr b:=fun q=>e (Sum.inr.inj q)
  rw[jQe h,jQe e]
theorem key_lr(a:Int)(b:Str):decide ((Sum.inl a:Key)=Sum.inr b)=false:=jQe (fun q=>nomatch q)
theorem key_rl(a:Str)(b:Int):decide ((Sum.inr a:Key)=Sum.inl b)=false:=jQe (fun q=>nomatch q)
def Xq(prog:Program)(w:World):PySem.KeyKind prog w Key where
 is:=Qej
 hash:=keyH w
 inj:=fun v a b ha hb=>by
  rcases Yc ha with⟨i,t,rfl,rfl⟩ | ⟨x,t,rfl,rfl⟩
  .rcases Yc hb with⟨j,u,rfl,e⟩ | ⟨y,u,rfl,e⟩
   .injection e with e1 _;rw[e1]
   .exact nomatch e
  .rcases Yc hb with⟨j,u,rfl,e⟩ | ⟨y,u,rfl,e⟩
   .exact nomatch e
   .injection e with e1 _;rw[e1]
 byValue:=fun k v h=>by
  rcases Yc h with⟨i,t,rfl,rfl⟩ | ⟨x,t,rfl,rfl⟩<;>rfl
 pyHash:=fun hv h=>by
  rcases Yc hv with⟨i,t,rfl,rfl⟩ | ⟨x,t,rfl,rfl⟩
  .exact wpAny_pyHash_int h
  .exact wpAny_pyHash_str h
 eqBool:=fun hu hv h=>by
  rcases Yc hu with⟨i,t,rfl,rfl⟩ | ⟨x,t,rfl,rfl⟩
  .rcases Yc hv with⟨j,u,rfl,rfl⟩ | ⟨y,u,rfl,rfl⟩
   .rw[key_ll]at h;exact wpAny_eqBool_int h
   .rw[key_lr]at h;exact SeqAt.EqAt.int_str i t y u _ _ _ _ h
  .rcases Yc hv with⟨j,u,rfl,rfl⟩ | ⟨y,u,rfl,rfl⟩
   .rw[key_rl]at h;exact SeqAt.EqAt.str_int x t j u _ _ _ _ h
   .rw[key_rr]at h;exact wpAny_eqBool_str h
 «strs»:=fun k x t v h=>by
  rcases Yc h with⟨i,u,rfl,e⟩ | ⟨y,u,rfl,e⟩
  .exact nomatch e
  .injection e with e1 _
   subst e1
   cases v<;>rfl
theorem Qgx(prog:Program)(w:World)(k:Key)(v:Value):(Xq prog w).is k v=Qej k v:=rfl
theorem Wg(prog:Program)(w:World)(i:Int)(t:Tok):(Xq prog w).is (.inl i) (.int i t)=true:=Qis i t
theorem Qek(prog:Program)(w:World)(x:Str)(t:Tok):(Xq prog w).is (.inr x) (.str x t)=true:=Qit x t
inductive V where
 |non | bl (b:Bool) | int (i:Int) | str (x:Str) | byt (b:Array UInt8) | flt (b:UInt64) | ref (a:Addr) | ty (n:String)
 deriving DecidableEq
def RelV:V->Value->Prop
 |.non,u=>u=Value.none
 |.bl b,u=>u=Value.bool b
 |.int i,u=>∃t,u=Value.int i t
 |.str x,u=>∃t,u=Value.str x t
 |.byt b,u=>∃t,u=Value.bytes b t
 |.flt b,u=>∃t,u=Value.float b t
 |.ref a,u=>u=Value.ref a
 |.ty n,u=>u=Value.type n
abbrev Vals:List V->List Value->Prop:=Paired RelV
theorem Vals.length{xs:List V}{us:List Value}(r:Vals xs us):xs.length=us.length:=Paired.length r
theorem Vals.get:∀{xs:List V} {us:List Value} {i:Nat} {x:V},Vals xs us->xs[i]?=some x->∃u,us[i]?=some u/\RelV x u
 |_,_,_,_,.nil,e=>by simp at e
 |_,_,0,_,.cons r _,e=>by simp at e;subst e;exact⟨_,rfl,r⟩
 |_,_,i+1,x,.cons _ t,e=>by
  obtain⟨u,h1,h2⟩:=Vals.get (i:=i) (x:=x) t (by simpa using e)
  exact⟨u,by simpa using h1,h2⟩
theorem Vals.set{x:V}{u:Value}(r:RelV x u):∀{xs:List V} {us:List Value} (i:Nat),Vals xs us->Vals (xs.set i x) (us.set i u)
 |_,_,_,.nil=>.nil
 |_,_,0,.cons _ t=>.cons r t
 |_,_,i+1,.cons q t=>.cons q (Vals.set r i t)
theorem Vals.append{xs ys:List V}{us ws:List Value}(h:Vals xs us)(g:Vals ys ws):Vals (xs++ys) (us++ws):=by
 induction h with
 |nil=>exact g
 |cons r t ih=>exact .cons r ih
theorem Vals.take:∀{xs:List V} {us:List Value} (n:Nat),Vals xs us->Vals (xs.take n) (us.take n)
 |_,_,0,_=>.nil
 |_,_,_+1,.nil=>.nil
 |_,_,n+1,.cons r t=>.cons r (Vals.take n t)
theorem Vals.drop:∀{xs:List V} {us:List Value} (n:Nat),Vals xs us->Vals (xs.drop n) (us.drop n)
 |_,_,0,r=>r
 |_,_,_+1,.nil=>.nil
 |_,_,n+1,.cons _ t=>Vals.drop n t
def RelO:Option V->Option Value->Prop
 |some v,some u=>RelV v u
 |none,none=>True
 |_,_=>False
def KV{κ:Type}:List (κ×V)->List (κ×Value)->Prop:=Paired fun(p:κ×V) (q:κ×Value)=>p.1=q.1/\RelV p.2 q.2
def kV:Key->V
 |.inl i=>.int i
 |.inr x=>.str x
inductive HO where
 |lst (xs:List V)
 |tup (xs:List V)
 |dK (kvs:List (Key×V)) | dT (kvs:List (List Key×V))
 |set (S:Int->Bool) (n:Nat)
 |ins (C dx:Addr) (fs:List (Str×V))
 |own (x:Addr)
 |xd (fs:List (Str×V))
 |met (f x:Addr)
 |rng (lo hi:Int)
 |frz (o:Obj) (u:HO)
 |tbl (ps:Array Value)
 |ext (φ:Heap->Prop)
abbrev Hp:=Addr->Option HO
def upd(H:Hp)(a:Addr)(o:HO):Hp:=fun b=>if b=a then some o else H b
theorem Qc{H:Hp}{a:Addr}{o:HO}:upd H a o a=some o:=by unfold upd;rw[if_pos rfl]
theorem Qj{H:Hp}{a b:Addr}{o:HO}(h:b≠a):upd H a o b=H b:=by unfold upd;rw[if_neg h]
theorem Qra{H:Hp}{a:Addr}{o u:HO}:upd (upd H a o) a u=upd H a u:=by
 funext b;unfold upd;split<;>rfl
theorem Yl{H:Hp}{a b:Addr}{o u:HO}(h:H a=some o)(h':H b=some u)(d:o≠u):a≠b:=by
 intro e;subst e;rw[h]at h';exact d (Option.some.inj h')
theorem Qk{H:Hp}{a b:Addr}{o:HO}(h:H a=some o)(h':H b=none):a≠b:=by
 intro e;subst e;rw[h]at h';cases h'
section
variable(P:Program)(w:World)
def ObjOk(H:Hp)(h:Heap)(a:Addr):HO->Prop
 |.lst xs=>xs.length<=sizeLine/\∃(its:List Value) (n:Nat),Vals xs its/\h.get? a=some { cls:=.type "list",data:=.seq its.toArray n }
 |.tup xs=>xs.length<=sizeLine/\∃its:List Value,Vals xs its/\IsTup h a its.toArray
 |.dK kvs=>kvs.length<=sizeLine/\(a == sysModules)=false/\∃vs,KV kvs vs/\h.DictOf (Xq P w) a vs
 |.dT kvs=>kvs.length<=sizeLine/\(a == sysModules)=false/\∃xs:List (List Key×Addr×Value),
   Paired (fun(p:List Key×V) (q:List Key×Addr×Value)=>p.1=q.1/\H q.2.1=some (.tup (p.1.map kV))/\RelV p.2 q.2.2) kvs xs /\
   ∃o es ep,h.get? a=some o/\o.ExactDict/\o.data=.dict es ep/\es.toList=xs.map (entryOfKey (tupleKind (Xq P w)))/\(xs.map (·.1)).Nodup
 |.set S n=>h.SetOf (intKind P w) a S n
 |.ins C dx fs=>H dx=some (.own a)/\fs.length<=1000/\dx≠a/\h.get? a=some (PySem.W.instObj C dx) /\
   ∃mA,h.Ns1 dx mA/\(∀f,RelO (fs.lookup f) (mA f))/\PySem.Within mA (fs.map (·.1))
 |.own _=>∃o,h.get? a=some o
 |.xd fs=>∃mA,h.Ns1 a mA/\∀f,RelO (fs.lookup f) (mA f)
 |.rng lo hi=>∃t u v,h.get? a=some { cls:=.type "range",data:=.fields #[.int lo t,.int hi u,.int 1 v] }
 |.frz o u=>h.get? a=some o/\ObjOk H h a u
 |.tbl ps=>h.get? a=some { cls:=.none,data:=.fields ps }
 |.met f x=>h.get? a=some (PySem.W.methodObj (.ref f) (.ref x))
 |.ext φ=>φ h/\(∃o,h.get? a=some o)/\∀h1 h2:Heap,φ h1->(∀o,h1.get? a=some o->h2.get? a=some o)->φ h2
def HOk(H:Hp)(h:Heap):Prop:=∀a o,H a=some o->ObjOk P w H h a o
end
section
variable{P:Program}{w:World}{H H':Hp}{h h':Heap}{a:Addr}{o:HO}
theorem ObjOk.lt(x:ObjOk P w H h a o):a<h.objs.size:=by
 cases o with
 |lst xs=>obtain⟨_,_,_,_,e⟩:=x;exact yY e
 |tup xs=>obtain⟨_,_,_,p⟩:=x;exact p.lt
 |dK kvs=>obtain⟨_,_,_,_,o,_,_,e,_⟩:=x;exact yY e
 |dT kvs=>obtain⟨_,_,_,_,o,_,_,e,_⟩:=x;exact yY e
 |set S n=>obtain⟨o,_,_,_,e,_⟩:=x;exact yY e
 |ins C dx fs=>obtain⟨_,_,_,e,_⟩:=x;exact yY e
 |own y=>obtain⟨_,e⟩:=x;exact yY e
 |xd fs=>obtain⟨_,⟨_,_,_,e,_⟩,_⟩:=x;exact yY e
 |rng lo hi=>obtain⟨_,_,_,e⟩:=x;exact yY e
 |frz ob u=>obtain⟨e,_⟩:=x;exact yY e
 |tbl ps=>exact yY (show h.get? a=some _ from x)
 |met f y=>exact yY (show h.get? a=some _ from x)
 |ext φ=>obtain⟨_,⟨_,e⟩,_⟩:=x;exact yY e
theorem Paired.mapP{α β:Type}{F G:α->β->Prop}{l₁:List α}{l₂:List β}(h:Paired F l₁ l₂)(f:∀a b,F a b->G a b):Paired G l₁ l₂:=by
 induction h with
 |nil=>exact .nil
 |cons r t ih=>exact .cons (f _ _ r) ih
theorem ObjOk.stay(x:ObjOk P w H h a o)(k:∀b u,(b=a\/H b=some (.own a))->h.get? b=some u->h'.get? b=some u)
  (ho:∀b,H b=some (.own a)->H' b=some (.own a)) (ht:∀b xs,H b=some (.tup xs)->H' b=some (.tup xs)):ObjOk P w H' h' a o:=by
 induction o with
 |lst xs=>obtain⟨z,its,n,r,e⟩:=x;exact⟨z,its,n,r,k _ _ (.inl rfl) e⟩
 |tup xs=>obtain⟨z,its,r,ob,e,c⟩:=x;exact⟨z,its,r,ob,k _ _ (.inl rfl) e,c⟩
 |dK kvs=>obtain⟨z,y,vs,r,ob,es,ep,e,c⟩:=x;exact⟨z,y,vs,r,ob,es,ep,k _ _ (.inl rfl) e,c⟩
 |dT kvs=>
  obtain⟨z,y,xs,r,ob,es,ep,e,c⟩:=x
  exact⟨z,y,xs,Paired.mapP r fun p q z=>⟨z.1,ht _ _ z.2.1,z.2.2⟩,ob,es,ep,k _ _ (.inl rfl) e,c⟩
 |set S n=>obtain⟨ob,es,ep,t,e,c⟩:=x;exact⟨ob,es,ep,t,k _ _ (.inl rfl) e,c⟩
 |ins C dx fs=>
  obtain⟨d,z,ne,e,mA,⟨od,es,ep,e2,c⟩,r⟩:=x
  exact⟨ho _ d,z,ne,k _ _ (.inl rfl) e,mA,⟨od,es,ep,k _ _ (.inr d) e2,c⟩,r⟩
 |own y=>obtain⟨ob,e⟩:=x;exact⟨ob,k _ _ (.inl rfl) e⟩
 |xd fs=>obtain⟨mA,⟨od,es,ep,e,c⟩,r⟩:=x;exact⟨mA,⟨od,es,ep,k _ _ (.inl rfl) e,c⟩,r⟩
 |rng lo hi=>obtain⟨t,u,v,e⟩:=x;exact⟨t,u,v,k _ _ (.inl rfl) e⟩
 |frz ob u ih=>obtain⟨e,q⟩:=x;exact⟨k _ _ (.inl rfl) e,ih q⟩
 |tbl ps=>
  have e:h.get? a=some { cls:=.none,data:=.fields ps }:=x
  show h'.get? a=some { cls:=.none,data:=.fields ps }
  exact k a _ (.inl rfl) e
 |met f y=>
  have e:h.get? a=some (PySem.W.methodObj (.ref f) (.ref y)):=x
  show h'.get? a=some (PySem.W.methodObj (.ref f) (.ref y))
  exact k a _ (.inl rfl) e
 |ext φ=>obtain⟨p,⟨o,e⟩,st⟩:=x;exact⟨st _ _ p fun o q=>k _ _ (.inl rfl) q,⟨o,k _ _ (.inl rfl) e⟩,st⟩
theorem HOk.lt(x:HOk P w H h)(e:H a=some o):a<h.objs.size:=(x a o e).lt
theorem HOk.fresh(x:HOk P w H h)(e:h.objs.size<=a):H a=none:=by
 cases q:H a with
 |none=>rfl
 |some u=>exact absurd (xY (x.lt q) e) (wW _)
theorem HOk.kept(x:HOk P w H h)(k:∀b u,h.get? b=some u->h'.get? b=some u):HOk P w H h':=fun a o e=>
 (x a o e).stay (fun b u _ q=>k b u q) (fun _ q=>q) fun _ _ q=>q
theorem HOk.laid(x:HOk P w H h)(k:∀b u,h.get? b=some u->h'.get? b=some u)(hp:h.objs.size<=a)(new:ObjOk P w (upd H a o) h' a o):HOk P w (upd H a o) h':=fun b u e=>by
 have hn:=x.fresh hp
 by_cases hb:b=a
 .subst hb;rw[Qc]at e;cases e;exact new
 .rw[Qj hb]at e
  exact(x b u e).stay (fun c v _ q=>k c v q) (fun c q=>by rw[Qj (Qk q hn)];exact q) fun c xs q=>by rw[Qj (Qk q hn)];exact q
end
def Rd(H:Hp)(a:Addr)(u:HO):Prop:=H a=some u\/∃o,H a=some (.frz o u)
theorem Rd.ok{P:Program}{w:World}{H:Hp}{h:Heap}{a:Addr}{u:HO}(r:Rd H a u)(x:HOk P w H h):ObjOk P w H h a u:=by
 rcases r with r | ⟨o,r⟩
 .exact x a u r
 .obtain⟨_,q⟩:=x a _ r
  exact q
def Mut:Option HO->Prop
 |some (.lst _)=>True
 |some (.dK _)=>True
 |some (.dT _)=>True
 |some (.set _ _)=>True
 |some (.ins _ _ _)=>True
 |some (.ext _)=>True
 |_=>False
section
variable{P:Program}{w:World}{H:Hp}{h h':Heap}{x e:Addr}{o':HO}
theorem HOk.write(ok:HOk P w H h)(mu:Mut (H x))(he:e=x\/H e=some (.own x))(k:∀b u,b≠e->h.get? b=some u->h'.get? b=some u)(heo:∃u,h'.get? e=some u)
  (new:ObjOk P w (upd H x o') h' x o'):HOk P w (upd H x o') h':=fun b u q=>by
 have nown:∀c y,H c=some (.own y)->c≠x:=fun c y r z=>by subst z;rw[r]at mu;exact mu
 have ntup:∀c xs,H c=some (.tup xs)->c≠x:=fun c xs r z=>by subst z;rw[r]at mu;exact mu
 by_cases hb:b=x
 .subst hb;rw[Qc]at q;cases q;exact new
 .rw[Qj hb]at q
  by_cases hbe:b=e
  .have q':H b=some (.own x):=by
    rcases he with z | z
    .exact absurd (hbe.trans z) hb
    .rw[hbe];exact z
   rw[q]at q';cases q'
   obtain⟨v,hv⟩:=heo
   exact⟨v,by rw[hbe];exact hv⟩
  .refine(ok b u q).stay (fun c v hc r=>k c v ?_ r) (fun c r=>by rw[Qj (nown c b r)];exact r) fun c xs r=>by rw[Qj (ntup c xs r)];exact r
   rcases hc with rfl | hc
   .exact hbe
   .rintro rfl
    rcases he with z | z
    .exact nown c b hc z
    .rw[hc]at z;cases z;exact hb rfl
end
structure Un(fs ex:List Addr)(H H':Hp)(h h':Heap):Prop where
 keep:∀b o,h.get? b=some o->H b=none->b∉fs->b∉ex->h'.get? b=some o
 slot:∀b o,h.get? b=some o->H b=none->b∈fs->b∉ex->∃sl,h'.get? b=some { o with slots:=sl }
 free:∀b o,h.get? b=some o->H b=none->b∉ex->H' b=none
 there:∀b o,h.get? b=some o->b∉ex->∃o',h'.get? b=some o'
 tups:∀b xs,H b=some (.tup xs)->H' b=some (.tup xs)
 frzs:∀b o u,H b=some (.frz o u)->H' b=some (.frz o u)
 tbls:∀b ps,H b=some (.tbl ps)->∃more,H' b=some (.tbl (ps++more))
section
variable{fs ex:List Addr}{H H1:Hp}{h h1 h':Heap}{a x e:Addr}{o:HO}
theorem Un.any(u:Un fs ex H H1 h h1){b:Addr}{ob:Obj}(q:h.get? b=some ob)(n:H b=none)(hx:b∉ex):∃sl,h1.get? b=some { ob with slots:=sl }:=by
 by_cases hb:b∈fs
 .exact u.slot b ob q n hb hx
 .exact⟨ob.slots,u.keep b ob q n hb hx⟩
theorem Un.kept(k:∀b u,h.get? b=some u->h'.get? b=some u):Un fs ex H H h h' :=
 ⟨fun b ob q _ _ _=>k b ob q,fun b ob q _ _ _=>⟨ob.slots,k b ob q⟩,fun _ _ _ n _=>n,fun b ob q _=>⟨ob,k b ob q⟩,fun _ _ q=>q,fun _ _ _ q=>q,fun _ ps q=>⟨#[],by rw[q];simp⟩⟩
theorem Un.refl:Un fs ex H H h h:=Un.kept fun _ _ q=>q
theorem Un.laid(k:∀b u,h.get? b=some u->h'.get? b=some u)(hp:h.objs.size<=a)(hn:H a=none):Un fs ex H (upd H a o) h h' where
 keep:=fun b u q _ _ _=>k b u q
 slot:=fun b u q _ _ _=>⟨u.slots,k b u q⟩
 free:=fun b u q n _=>by rw[Qj (zJ (xY (yY q) hp))];exact n
 there:=fun b u q _=>⟨u,k b u q⟩
 tups:=fun b xs q=>by rw[Qj (Qk q hn)];exact q
 frzs:=fun b u xs q=>by rw[Qj (Qk q hn)];exact q
 tbls:=fun b ps q=>⟨#[],by rw[Qj (Qk q hn),q];simp⟩
theorem Un.write(mu:Mut (H x))(he:e=x\/H e=some (.own x))(k:∀b u,b≠e->h.get? b=some u->h'.get? b=some u)(heo:∃u,h'.get? e=some u):Un fs ex H (upd H x o) h h':=by
 have hx:∀b,H b=none->b≠x:=fun b n z=>by subst z;rw[n]at mu;exact mu
 have hb:∀b,H b=none->b≠e:=fun b n z=>by
  subst z
  rcases he with r | r
  .exact hx b n r
  .rw[n]at r;cases r
 have hm:∀b u,H b=some u->¬Mut (some u)->b≠x:=fun b u q nm z=>by subst z;rw[q]at mu;exact nm mu
 refine⟨fun b u q n _ _=>k b u (hb b n) q,fun b u q n _ _=>⟨u.slots,k b u (hb b n) q⟩,fun b u q n _=>by rw[Qj (hx b n)];exact n,fun b u q _=>?_,
  fun b xs q=>by rw[Qj (hm b _ q fun z=>z)];exact q,fun b u xs q=>by rw[Qj (hm b _ q fun z=>z)];exact q,fun b ps q=>⟨#[],by rw[Qj (hm b _ q fun z=>z),q];simp⟩⟩
 by_cases hbe:b=e
 .subst hbe;exact heo
 .exact⟨u,k b u hbe q⟩
end
def trk(h:Heap)(H:Hp):List Addr:=(List.range h.objs.size).filter fun a=>(H a).isSome
def hidT(h:Heap)(H:Hp):Heap:=PySem.W.hideAll h (trk h H)
theorem Qiu(h:Heap)(H:Hp):(hidT h H).objs.size=h.objs.size:=PySem.W.hideAll_size _ _
theorem Qms{h:Heap}{H:Hp}{b:Addr}{o:Obj}(e:h.get? b=some o)(n:H b=none):(hidT h H).get? b=some o :=
 PySem.W.hideAll_get _ e fun hm=>by
  have q:(H b).isSome=true:=(jYa.mp hm).2
  rw[n]at q;simp at q
theorem Qrb{h:Heap}{H:Hp}{b:Addr}{o:Obj}(e:(hidT h H).get? b=some o):h.get? b=some o/\H b=none:=by
 have e':h.get? b=some o:=PySem.W.of_hideAll (trk h H) e
 refine⟨e',?_⟩
 cases q:H b with
 |none=>rfl
 |some x=>
  have hm:b∈trk h H:=jYa.mpr ⟨xX.mpr (yY e'),by simp[q]⟩
  have z:(hidT h H).get? b=none:=PySem.W.hideAll_none (trk h H) hm
  rw[z]at e;cases e
structure Mod(K:Fg)(mg:Str->Option Value)(base:Heap):Prop where
 kin:K.In base
 glob:base.Ns mainGlobals mg
 blt:∃mb,base.Ns builtinsNs mb/\∀x:Str,x≠"__name__"->mb x=bootBuiltins x
 nolimit:base.NoLimit
set_option genInjectivity false in
set_option genInjectivity false in
structure Cx where
 prog:Program
 w:World
 K:Fg
 mg:Str->Option Value
 base:Heap
 A:Around
 N:List Str
 s₀:Shared
 H₀:Hp
 env:Env
 outer:List Env
 stack:List Env
 ex:List Addr
 fn:Str->Bool
 calm:Bool
 pn:List (Addr×Obj)
 xe:Value->Shared->Prop
def frs(l:List Env):List Addr:=l.filterMap (·.frame)
abbrev Cx.fs(X:Cx):List Addr:=frs X.outer
def Vis(sc:Scope)(x:Str):Prop:=sc.names.lookup x=some .local\/sc.names.lookup x=some .cell\/sc.names.lookup x=some .free
def Loc(sc:Scope)(x:Str):Prop:=sc.names.lookup x=some .local\/sc.names.lookup x=some .cell
def Look(env:Env)(h:Heap)(m:Str->Option Value)(x:Str)(u:Value):Prop :=
 (env.kindOf x=some .local/\m x=some u)\/((env.kindOf x=some .cell\/env.kindOf x=some .free)/\∃c,env.cells.lookup x=some c/\h.IsCell c (some u))
structure Cx.Ok(X:Cx):Prop where
 mod:Mod X.K X.mg X.base
 kind:X.env.scope.kind=.function
 glob:X.env.globals=mainGlobals
 blt:X.env.builtins=builtinsNs
 above:X.s₀.heap.objs.size<=X.env.locals
 inj:∀x y c,X.env.cells.lookup x=some c->X.env.cells.lookup y=some c->x=y
 has:∀x,(X.env.kindOf x=some .cell\/X.env.kindOf x=some .free)->∃c,X.env.cells.lookup x=some c
 cab:∀x c,X.fn x=true->X.env.cells.lookup x=some c->X.s₀.heap.objs.size<=c
 hd:X.calm=true->X.A.handled=none
 frames:X.A.frames=some X.stack
 stk:X.stack=X.outer\/(X.stack=X.env::X.outer/\X.env.frame=some X.env.locals)
 exf:∀b∈X.ex,b≠X.env.locals/\∀x c,X.env.cells.lookup x=some c->c≠b
 bs:∀b o,X.base.get? b=some o->X.s₀.heap.get? b=some o/\X.H₀ b=none
 bsz:X.base.objs.size<=X.s₀.heap.objs.size
 noex:∀b o,X.base.get? b=some o->b∉X.ex
 exfs:∀b∈X.ex,b∉X.fs
 funs:X.s₀.heap.FunFrames X.base X.outer
 frf:∀b∈X.fs,X.H₀ b=none
structure Inv(X:Cx)(pins:List (Addr×Obj))(σ:List (Option V))(H:Hp)(s:Shared):Prop where
 ok:X.Ok
 os:s.os=X.s₀.os
 bare:AllBare s.gens
 base:Un X.fs X.ex X.H₀ H X.s₀.heap s.heap
 loc:∃m,s.heap.Ns X.env.locals m/\∀(i:Nat) (x:Str) (v:V),X.N[i]?=some x->σ[i]?=some (some v)->Vis X.env.scope x->∃u,RelV v u/\Look X.env s.heap m x u
 cell:∀x c,X.env.cells.lookup x=some c->∃v,s.heap.IsCell c v
 free:H X.env.locals=none
 freeC:∀x c,X.env.cells.lookup x=some c->H c=none
 pin:∀p∈X.pn++pins,s.heap.get? p.1=some p.2/\H p.1=none/\p.1≠X.env.locals/\p.1∉X.fs/\∀v,p.2.data≠.cell v
 hok:HOk X.prog X.w H s.heap
 len:σ.length=X.N.length
section
variable{X:Cx}{pins:List (Addr×Obj)}{σ:List (Option V)}{H H':Hp}{s:Shared}{h':Heap}
theorem Cx.Ok.nofr(ok:X.Ok){b:Addr}{o:Obj}(e:X.base.get? b=some o):b∉X.fs:=fun hb=>by
 have:=(ok.funs.mem hb).1
 rw[e]at this;cases this
theorem Inv.bs(I:Inv X pins σ H s):∀b o,X.base.get? b=some o->s.heap.get? b=some o/\H b=none:=fun b o e=>
 ⟨I.base.keep b o (I.ok.bs b o e).1 (I.ok.bs b o e).2 (I.ok.nofr e) (I.ok.noex b o e),I.base.free b o (I.ok.bs b o e).1 (I.ok.bs b o e).2 (I.ok.noex b o e)⟩
theorem Inv.bk(I:Inv X pins σ H s):∀b o,X.base.get? b=some o->s.heap.get? b=some o:=fun b o e=>(I.bs b o e).1
theorem Inv.mod(I:Inv X pins σ H s):Mod X.K X.mg X.base:=I.ok.mod
theorem Inv.kIn(I:Inv X pins σ H s):X.K.In s.heap:=I.ok.mod.kin.keeps I.bk
theorem Inv.lt(I:Inv X pins σ H s):X.env.locals<s.heap.objs.size:=by obtain⟨_,hn,_⟩:=I.loc;exact hn.lt
theorem Inv.sz(I:Inv X pins σ H s):X.s₀.heap.objs.size<=s.heap.objs.size:=jQb I.ok.above (Nat.le_of_lt I.lt)
theorem Inv.nofs(I:Inv X pins σ H s){a:Addr}(h:s.heap.objs.size<=a):a∉X.fs:=fun hb=>by
 obtain⟨_,o,ho,_⟩:=I.ok.funs.mem hb
 exact absurd (xY (yY ho) (jQb I.sz h)) (wW _)
theorem Inv.cne(I:Inv X pins σ H s):∀x c,X.env.cells.lookup x=some c->c≠X.env.locals:=fun x c e z=>by
 obtain⟨v,o,ho,hd⟩:=I.cell x c e
 obtain⟨m,⟨o',es,ep,ho',hd',_⟩,_⟩:=I.loc
 rw[z,ho']at ho;cases ho;rw[hd']at hd;cases hd
theorem Inv.funs(I:Inv X pins σ H s):s.heap.FunFrames X.base X.outer:=by
 have all:∀(l:List Env),(∀b∈frs l,b∈X.fs)->X.s₀.heap.FunFrames X.base l->s.heap.FunFrames X.base l:=by
  intro l
  induction l with
  |nil=>intro _ _;trivial
  |cons env r ih=>
   intro hs hl
   obtain⟨hk,⟨L,o,hf,hn,ho,hd⟩,hr⟩:=hl
   have hL:L∈X.fs:=hs L (by unfold frs;rw[yQd,hf];exact yV)
   obtain⟨sl,e⟩:=I.base.slot L o ho (I.ok.frf L hL) hL fun z=>I.ok.exfs L z hL
   exact⟨hk,⟨L,_,hf,hn,e,hd⟩,ih (fun b hb=>hs b (by unfold frs;rw[yQd,hf];exact yZ _ hb)) hr⟩
 exact all X.outer (fun _ hb=>hb) I.ok.funs
theorem Inv.stack(I:Inv X pins σ H s):s.heap.FunFrames X.base X.stack:=by
 rcases I.ok.stk with e | ⟨e,hf⟩
 .rw[e];exact I.funs
 .rw[e]
  obtain⟨m,hn,_⟩:=I.loc
  refine .cons (by rw[I.ok.kind];decide) hf hn ?_ I.funs
  exact Heap.get?_none_of_le (jQb I.ok.bsz I.ok.above)
theorem Inv.stkSub(I:Inv X pins σ H s):∀b∈frs X.stack,b∈X.env.locals::X.fs:=fun b hb=>by
 rcases I.ok.stk with e | ⟨e,hf⟩
 .rw[e]at hb;exact yZ _ hb
 .rw[e]at hb
  unfold frs at hb
  rw[yQd,hf]at hb
  exact hb
theorem Inv.stkFree(I:Inv X pins σ H s):∀b∈frs X.stack,H b=none:=fun b hb=>by
 rcases kQ.mp (I.stkSub b hb)with e | hb
 .rw[e];exact I.free
 .obtain⟨_,o,ho,_⟩:=I.ok.funs.mem hb
  exact I.base.free b o ho (I.ok.frf b hb) fun z=>I.ok.exfs b z hb
theorem Inv.step{g':Array GenState}{t':Nat}{d':Drawn}{ch:List Addr}(I:Inv X pins σ H s)
  (hch:∀b∈ch,(b∈X.ex\/X.s₀.heap.objs.size<=b)/\b≠X.env.locals/\(∀x c,X.env.cells.lookup x=some c->c≠b)/\∀p∈X.pn++pins,p.1≠b)
  (keep:∀b o,b≠X.env.locals->b∉X.fs->b∉ch->s.heap.get? b=some o->H b=none->h'.get? b=some o)
  (slot:∀b o,b≠X.env.locals->b∈X.fs->b∉ch->s.heap.get? b=some o->H b=none->∃sl,h'.get? b=some { o with slots:=sl }) (free:∀b o,b∉ch->s.heap.get? b=some o->H b=none->H' b=none)
  (there:∀b o,b∉ch->s.heap.get? b=some o->∃o',h'.get? b=some o')
  (tups:∀b xs,H b=some (.tup xs)->H' b=some (.tup xs)) (frzs:∀b o u,H b=some (.frz o u)->H' b=some (.frz o u)) (tbls:∀b ps,H b=some (.tbl ps)->∃more,H' b=some (.tbl (ps++more)))
  (ns:∀m,s.heap.Ns X.env.locals m->h'.Ns X.env.locals m) (hok:HOk X.prog X.w H' h') (hg:AllBare g') :
  Inv X pins σ H' { s with heap:=h',gens:=g',drawn:=d',toks:=t' }:=by
 have neL:∀b o,X.s₀.heap.get? b=some o->b≠X.env.locals:=fun b o e=>zJ (xY (yY e) I.ok.above)
 have neC:∀b o,X.s₀.heap.get? b=some o->b∉X.ex->b∉ch:=fun b o e hx hb=>by
  rcases(hch b hb).1 with z | z
  .exact hx z
  .exact absurd (xY (yY e) z) (wW _)
 have cellK:∀x c,X.env.cells.lookup x=some c->∀v,s.heap.IsCell c v->h'.IsCell c v:=fun x c e v ⟨o,ho,hd⟩=>by
  have nch:c∉ch:=fun z=>(hch c z).2.2.1 x c e rfl
  by_cases hc:c∈X.fs
  .obtain⟨sl,q⟩:=slot c o (I.cne x c e) hc nch ho (I.freeC x c e)
   exact⟨_,q,hd⟩
  .exact⟨o,keep c o (I.cne x c e) hc nch ho (I.freeC x c e),hd⟩
 refine⟨I.ok,I.os,hg,⟨fun b o e n hb hx=>?_,fun b o e n hb hx=>?_,fun b o e n hx=>?_,fun b o e hx=>?_,fun b xs e=>tups b xs (I.base.tups b xs e),fun b o xs e=>frzs b o xs (I.base.frzs b o xs e),fun b ps e=>?_⟩,?_,fun x c e=>?_,?_,fun x c e=>?_,fun p hp=>?_,hok,I.len⟩
 .exact keep b o (neL b o e) hb (neC b o e hx) (I.base.keep b o e n hb hx) (I.base.free b o e n hx)
 .obtain⟨sl,e1⟩:=I.base.slot b o e n hb hx
  obtain⟨sl',e2⟩:=slot b _ (neL b o e) hb (neC b o e hx) e1 (I.base.free b o e n hx)
  exact⟨sl',e2⟩
 .obtain⟨o',e1⟩:=I.base.there b o e hx
  exact free b o' (neC b o e hx) e1 (I.base.free b o e n hx)
 .obtain⟨o',e1⟩:=I.base.there b o e hx
  exact there b o' (neC b o e hx) e1
 .obtain⟨m1,e1⟩:=I.base.tbls b ps e
  obtain⟨m2,e2⟩:=tbls b _ e1
  exact⟨m1++m2,by rw[e2,Array.append_assoc]⟩
 .obtain⟨m,hn,hl⟩:=I.loc
  refine⟨m,ns m hn,fun i x v e1 e2 e3=>?_⟩
  obtain⟨u,r,l⟩:=hl i x v e1 e2 e3
  refine⟨u,r,?_⟩
  rcases l with l | ⟨k,c,e,z⟩
  .exact .inl l
  .exact .inr ⟨k,c,e,cellK x c e _ z⟩
 .obtain⟨v,z⟩:=I.cell x c e
  exact⟨v,cellK x c e v z⟩
 .obtain⟨m,⟨o,_,_,ho,_⟩,_⟩:=I.loc
  exact free _ o (fun z=>(hch _ z).2.1 rfl) ho I.free
 .obtain⟨v,o,ho,hd⟩:=I.cell x c e
  exact free c o (fun z=>(hch c z).2.2.1 x c e rfl) ho (I.freeC x c e)
 .obtain⟨e,n,ne,nf,d⟩:=I.pin p hp
  have nch:p.1∉ch:=fun z=>(hch p.1 z).2.2.2 p hp rfl
  exact⟨keep p.1 p.2 ne nf nch e n,free p.1 p.2 nch e n,ne,nf,d⟩
theorem Inv.un{t':Nat}(I:Inv X pins σ H s)(u:Un X.fs [] H H' s.heap h')(hok:HOk X.prog X.w H' h'):Inv X pins σ H' { s with heap:=h',toks:=t' }:=by
 obtain⟨m,⟨o,es,ep,ho,r⟩,_⟩:=id I.loc
 obtain⟨sl,hL⟩:=u.any ho I.free (by simp)
 exact I.step (g':=s.gens) (d':=s.drawn) (ch:=[]) (fun _ z=>nomatch z) (fun b o _ hb _ e n=>u.keep b o e n hb (by simp)) (fun b o _ hb _ e n=>u.slot b o e n hb (by simp)) (fun b o _ e n=>u.free b o e n (by simp)) (fun b o _ e=>u.there b o e (by simp)) u.tups u.frzs u.tbls (fun m' hm=>by
  obtain⟨o',es',ep',ho',r'⟩:=hm
  rw[ho]at ho';cases ho'
  exact⟨_,es',ep',hL,r'⟩) hok I.bare
theorem Inv.call{g':Array GenState}{t':Nat}{d':Drawn}{ch:List Addr}(I:Inv X pins σ H s)(u:Un (frs X.stack) ch H H' s.heap h')(hok:HOk X.prog X.w H' h')(hg:AllBare g')
  (hch:∀b∈ch,(b∈X.ex\/X.s₀.heap.objs.size<=b)/\b≠X.env.locals/\(∀x c,X.env.cells.lookup x=some c->c≠b)/\∀p∈X.pn++pins,p.1≠b) :
  Inv X pins σ H' { s with heap:=h',gens:=g',drawn:=d',toks:=t' }:=by
 obtain⟨m,⟨o,es,ep,ho,r⟩,_⟩:=id I.loc
 obtain⟨sl,hL⟩:=u.any ho I.free fun z=>(hch _ z).2.1 rfl
 exact I.step (ch:=ch) hch (fun b o hL hb hc e n=>u.keep b o e n (fun z=>(kQ.mp (I.stkSub b z)).elim hL hb) hc) (fun b o _ _ hc e n=>u.any e n hc) (fun b o hc e n=>u.free b o e n hc) (fun b o hc e=>u.there b o e hc) u.tups u.frzs u.tbls (fun m' hm=>by
  obtain⟨o',es',ep',ho',r'⟩:=hm
  rw[ho]at ho';cases ho'
  exact⟨_,es',ep',hL,r'⟩) hok hg
theorem Inv.turned{t':Nat}{it:Addr}(I:Inv X pins σ H s)(k:∀b o,b≠it->s.heap.get? b=some o->h'.get? b=some o)(hn:H it=none)(hL:it≠X.env.locals)
  (h1:it∈X.ex\/X.s₀.heap.objs.size<=it) (h2:∀x c,X.env.cells.lookup x=some c->c≠it) (h3:∀p∈X.pn++pins,p.1≠it):Inv X pins σ H { s with heap:=h',toks:=t' }:=by
 have nit:∀b u,H b=some u->b≠it:=fun b u e z=>by rw[z,hn]at e;cases e
 refine I.step (g':=s.gens) (d':=s.drawn) (ch:=[it]) (fun b hb=>?_) (fun b o _ _ hc e _=>k b o (fun z=>hc (by simp[z])) e) (fun b o _ _ hc e _=>⟨o.slots,k b o (fun z=>hc (by simp[z])) e⟩) (fun _ _ _ _ n=>n)
  (fun b o hc e=>⟨o,k b o (fun z=>hc (by simp[z])) e⟩) (fun _ _ e=>e) (fun _ _ _ e=>e) (fun b ps e=>⟨#[],by rw[e];simp⟩) (fun m hm=>?_) (fun b u e=>?_) I.bare
 .have e:b=it:=by simpa using hb
  subst e
  exact⟨h1,hL,h2,h3⟩
 .obtain⟨o,es,ep,ho,r⟩:=hm
  exact⟨o,es,ep,k _ o (Ne.symm hL) ho,r⟩
 .refine(I.hok b u e).stay (fun c v hc q=>k c v ?_ q) (fun _ q=>q) fun _ _ q=>q
  rcases hc with z | z
  .rw[z];exact nit b u e
  .exact nit c _ z
theorem Inv.tok(I:Inv X pins σ H s)(t:Nat):Inv X pins σ H { s with toks:=t }:=I.un (h':=s.heap) (t':=t) Un.refl I.hok
theorem Inv.kept{t':Nat}(I:Inv X pins σ H s)(k:∀b u,s.heap.get? b=some u->h'.get? b=some u):Inv X pins σ H { s with heap:=h',toks:=t' }:=I.un (Un.kept k) (I.hok.kept k)
theorem Inv.laid{a:Addr}{o:HO}{t':Nat}(I:Inv X pins σ H s)(k:∀b u,s.heap.get? b=some u->h'.get? b=some u)(hp:s.heap.objs.size<=a)(new:ObjOk X.prog X.w (upd H a o) h' a o) :
  Inv X pins σ (upd H a o) { s with heap:=h',toks:=t' }:=I.un (Un.laid k hp (I.hok.fresh hp)) (I.hok.laid k hp new)
theorem Inv.write{x e:Addr}{o:HO}{t':Nat}(I:Inv X pins σ H s)(mu:Mut (H x))(he:e=x\/H e=some (.own x))(k:∀b u,b≠e->s.heap.get? b=some u->h'.get? b=some u)(heo:∃u,h'.get? e=some u)
  (new:ObjOk X.prog X.w (upd H x o) h' x o):Inv X pins σ (upd H x o) { s with heap:=h',toks:=t' }:=I.un (Un.write mu he k heo) (I.hok.write mu he k heo new)
theorem Inv.pins_of{pins':List (Addr×Obj)}(I:Inv X pins σ H s)(h:∀p∈pins',s.heap.get? p.1=some p.2/\H p.1=none/\p.1≠X.env.locals/\p.1∉X.fs/\∀v,p.2.data≠.cell v):Inv X pins' σ H s :=
 ⟨I.ok,I.os,I.bare,I.base,I.loc,I.cell,I.free,I.freeC,fun p hp=>(zY.mp hp).elim (fun z=>I.pin p (kZa _ z)) (h p),I.hok,I.len⟩
theorem Qfs{N:List Str}(hN:N.Nodup){i j:Nat}{x:Str}(a:N[i]?=some x)(b:N[j]?=some x):i=j:=by
 obtain⟨h1,e1⟩:=jW.mp a
 obtain⟨h2,e2⟩:=jW.mp b
 exact(List.getElem_inj hN).mp (e1.trans e2.symm)
theorem Qcv{M:Model}{A:Around}{E:Value->Shared->Prop}{i:Nat}{x:Str}{v:V}{u:Value}{Q:Unit->Shared->Prop}(I:Inv X pins σ H s)(hN:X.N.Nodup)(hi:X.N[i]?=some x)(hx:Loc X.env.scope x)(r:RelV v u)
  (h:∀s',Inv X pins (σ.set i (some v)) H s'->(∃a,Heap.SameBut a s.heap s'.heap/\(a=X.env.locals\/X.env.cells.lookup x=some a))->Q () s') (hf:autoParam (X.fn x=true\/X.env.scope.names.lookup x=some .local) L2.aFst._auto_1):wpAny M A (storeName X.env x u) Q E s:=by
 obtain⟨m,hn,hl⟩:=id I.loc
 have hcls:(X.env.scope.kind == .class||(X.env.scope.kind == .module&&X.env.locals != X.env.globals))=false:=by rw[I.ok.kind];rfl
 have hiσ:i<σ.length:=by rw[I.len];exact(jW.mp hi).1
 have cne:=I.cne
 have tracked:∀{a:Addr} {h':Heap},(∃o,s.heap.get? a=some o/\H a=none)->Heap.SameBut a s.heap h'->HOk X.prog X.w H h':=fun{a h'} ha hs b ob e=>by
  obtain⟨_,_,hfree⟩:=ha
  refine(I.hok b ob e).stay (fun c w' hc q=>(hs.2 c ?_).trans q) (fun _ q=>q) fun _ _ q=>q
  rintro rfl
  rcases hc with rfl | hc
  .rw[hfree]at e;cases e
  .rw[hfree]at hc;cases hc
 rcases hx with hk | hk
 .refine wpAny_storeName_local hk hn (fun h' hn' hs=>?_) hcls
  obtain⟨oL,_,_,hoL,_⟩:=id hn
  refine h _ ⟨I.ok,I.os,I.bare,⟨fun b o e n hb hx=>?_,fun b o e n hb hx=>?_,I.base.free,fun b o e hx=>?_,I.base.tups,I.base.frzs,I.base.tbls⟩,⟨_,hn',fun j y v' e1 e2 e3=>?_⟩,fun y c e=>?_,I.free,I.freeC,fun p hp=>?_,tracked ⟨oL,hoL,I.free⟩ hs,by simpa using I.len⟩ ⟨_,hs,.inl rfl⟩
  .exact(hs.2 b (zJ (xY (yY e) I.ok.above))).trans (I.base.keep b o e n hb hx)
  .obtain⟨sl,e1⟩:=I.base.slot b o e n hb hx
   exact⟨sl,(hs.2 b (zJ (xY (yY e) I.ok.above))).trans e1⟩
  .obtain⟨o',e1⟩:=I.base.there b o e hx
   exact⟨o',(hs.2 b (zJ (xY (yY e) I.ok.above))).trans e1⟩
  .by_cases hj:j=i
   .subst hj
    rw[hi]at e1;cases e1
    rw[List.getElem?_set_self hiσ]at e2
    cases e2
    exact⟨u,r,.inl ⟨hk,by simp⟩⟩
   .rw[List.getElem?_set_ne (Ne.symm hj)]at e2
    obtain⟨u',r',q⟩:=hl j y v' e1 e2 e3
    refine⟨u',r',?_⟩
    rcases q with⟨k,e⟩ | ⟨k,c,e,z⟩
    .refine .inl ⟨k,?_⟩
     have:y≠x:=fun e=>hj (Qfs hN e1 (e▸hi))
     simp[this,e]
    .exact .inr ⟨k,c,e,z.sameBut hs (cne y c e)⟩
  .obtain⟨w',z⟩:=I.cell y c e
   exact⟨w',z.sameBut hs (cne y c e)⟩
  .obtain⟨e,n,ne,nf,d⟩:=I.pin p hp
   exact⟨(hs.2 p.1 ne).trans e,n,ne,nf,d⟩
 .have hfn:X.fn x=true:=by
   rcases hf with z | z
   .exact z
   .rw[z]at hk;cases hk
  obtain⟨c,hc⟩:=I.ok.has x (.inl hk)
  obtain⟨w',z⟩:=I.cell x c hc
  refine wpAny_storeName_cell I.ok.kind hk hc z (fun h' hc' hs=>?_)
  obtain⟨oc,hoc,hocd⟩:=id z
  refine h { s with heap:=h' } ⟨I.ok,I.os,I.bare,⟨fun b o e n hb hx=>?_,fun b o e n hb hx=>?_,I.base.free,fun b o e hx=>?_,I.base.tups,I.base.frzs,I.base.tbls⟩,⟨m,hn.sameBut hs (Ne.symm (cne x c hc)),fun j y v' e1 e2 e3=>?_⟩,fun y c' e=>?_,I.free,I.freeC,fun p hp=>?_,tracked ⟨oc,hoc,I.freeC x c hc⟩ hs,by simpa using I.len⟩ ⟨c,hs,.inr hc⟩
  .exact(hs.2 b (zJ (xY (yY e) (I.ok.cab x c hfn hc)))).trans (I.base.keep b o e n hb hx)
  .obtain⟨sl,e1⟩:=I.base.slot b o e n hb hx
   exact⟨sl,(hs.2 b (zJ (xY (yY e) (I.ok.cab x c hfn hc)))).trans e1⟩
  .obtain⟨o',e1⟩:=I.base.there b o e hx
   exact⟨o',(hs.2 b (zJ (xY (yY e) (I.ok.cab x c hfn hc)))).trans e1⟩
  .by_cases hj:j=i
   .subst hj
    rw[hi]at e1;cases e1
    rw[List.getElem?_set_self hiσ]at e2
    cases e2
    exact⟨u,r,.inr ⟨.inl hk,c,hc,hc'⟩⟩
   .rw[List.getElem?_set_ne (Ne.symm hj)]at e2
    obtain⟨u',r',q⟩:=hl j y v' e1 e2 e3
    refine⟨u',r',?_⟩
    rcases q with q | ⟨k,c',e,z'⟩
    .exact .inl q
    .refine .inr ⟨k,c',e,z'.sameBut hs ?_⟩
     rintro rfl
     exact hj (Qfs hN e1 (I.ok.inj _ _ _ e hc▸hi))
  .by_cases hcc:c'=c
   .subst hcc;exact⟨_,hc'⟩
   .obtain⟨w2,z2⟩:=I.cell y c' e
    exact⟨w2,z2.sameBut hs hcc⟩
  .obtain⟨e,n,ne,nf,d⟩:=I.pin p hp
   refine⟨(hs.2 p.1 ?_).trans e,n,ne,nf,d⟩
   intro q
   rw[q,hoc]at e
   have q':oc=p.2:=Option.some.inj e
   exact d w' (by rw[<-q'];exact hocd)
theorem Qbi{M:Model}{A:Around}{E:Value->Shared->Prop}{i:Nat}{x:Str}{v:V}{u:Value}{Q:Unit->Shared->Prop}(I:Inv X pins σ H s)(hN:X.N.Nodup)(hi:X.N[i]?=some x)(hx:Loc X.env.scope x)(r:RelV v u)
  (h:∀s',Inv X pins (σ.set i (some v)) H s'->Q () s') (hf:autoParam (X.fn x=true\/X.env.scope.names.lookup x=some .local) L2.aFst._auto_1):wpAny M A (storeName X.env x u) Q E s :=
 Qcv I hN hi hx r (fun s' I' _=>h s' I') hf
theorem Inv.call'{s':Shared}{ch:List Addr}(I:Inv X pins σ H s)(ho:s'.os=s.os)(u:Un (frs X.stack) ch H H' s.heap s'.heap)(hok:HOk X.prog X.w H' s'.heap)(hg:AllBare s'.gens)
  (hch:∀b∈ch,(b∈X.ex\/X.s₀.heap.objs.size<=b)/\b≠X.env.locals/\(∀x c,X.env.cells.lookup x=some c->c≠b)/\∀p∈X.pn++pins,p.1≠b):Inv X pins σ H' s':=by
 obtain⟨h',g',d',t',o'⟩:=s'
 have e:o'=s.os:=ho
 subst e
 exact I.call (g':=g') (t':=t') (d':=d') u hok hg hch
end
abbrev XK:=Value->Option Addr->Hp->Prop
abbrev St:=List (Option V)
abbrev VK:=V->Hp->Prop
abbrev TE:=St->Hp->VK->Prop
abbrev TT:=St->Hp->(Bool->Hp->Prop)->Prop
abbrev TA:=St->Hp->(List V->Hp->Prop)->Prop
set_option genInjectivity false in
set_option genInjectivity false in
structure Ends where
 nx:St->Hp->Prop
 rt:VK
 bk:St->Hp->Prop:=fun _ _=>False
 ct:St->Hp->Prop:=fun _ _=>False
abbrev TS:=Ends->St->Hp->Prop
def EP(X:Cx)(pins:List (Addr×Obj))(σ:St)(Q:VK)(u:Value)(s':Shared):Prop:=∃v H',Inv X pins σ H' s'/\RelV v u/\Q v H'
def TP(X:Cx)(pins:List (Addr×Obj))(σ:St)(Q:Bool->Hp->Prop)(b:Bool)(s':Shared):Prop:=∃H',Inv X pins σ H' s'/\Q b H'
def AP(X:Cx)(pins:List (Addr×Obj))(σ:St)(Q:List V->Hp->Prop)(us:List Value)(s':Shared):Prop:=∃vs H',Inv X pins σ H' s'/\Vals vs us/\Q vs H'
def SP(X:Cx)(pins:List (Addr×Obj))(D:Ends)(f:Flow)(s':Shared):Prop :=
 match f with
 |.next=>∃σ' H',Inv X pins σ' H' s'/\D.nx σ' H'
 |.brk=>∃σ' H',Inv X pins σ' H' s'/\D.bk σ' H'
 |.cont=>∃σ' H',Inv X pins σ' H' s'/\D.ct σ' H'
 |.ret u=>∃v σ' H',Inv X pins σ' H' s'/\RelV v u/\D.rt v H'
def PE(X:Cx)(e:Expr)(t:TE):Prop :=
 ∀(pins:List (Addr×Obj)) (s:Shared) (σ:St) (H:Hp) (Q:VK),Inv X pins σ H s->t σ H Q->wpAny (model X.prog X.w) X.A (eval e X.env) (EP X pins σ Q) X.xe s
def PT(X:Cx)(e:Expr)(t:TT):Prop :=
 ∀(pins:List (Addr×Obj)) (s:Shared) (σ:St) (H:Hp) (Q:Bool->Hp->Prop),Inv X pins σ H s->t σ H Q->wpAny (model X.prog X.w) X.A (isTrue e X.env (eval e X.env)) (TP X pins σ Q) X.xe s
def PW(X:Cx)(e:Expr)(t:TT):Prop :=
 ∀(whole:Sem Value) (pins:List (Addr×Obj)) (s:Shared) (σ:St) (H:Hp) (Q:Bool->Hp->Prop),Inv X pins σ H s->t σ H Q->wpAny (model X.prog X.w) X.A (isTrue e X.env whole) (TP X pins σ Q) X.xe s
theorem PW.pt{X:Cx}{e:Expr}{t:TT}(h:PW X e t):PT X e t:=h _
def PA(X:Cx)(es:List Expr)(t:TA):Prop :=
 ∀(pos:Pos) (pins:List (Addr×Obj)) (s:Shared) (σ:St) (H:Hp) (Q:List V->Hp->Prop),Inv X pins σ H s->t σ H Q->wpAny (model X.prog X.w) X.A (spliced (backTo pos (starEach es X.env))) (AP X pins σ Q) X.xe s
def PS(X:Cx)(st:Stmt)(t:TS):Prop :=
 ∀(pins:List (Addr×Obj)) (s:Shared) (σ:St) (H:Hp) (D:Ends),Inv X pins σ H s->t D σ H->wpAny (model X.prog X.w) X.A (exec st X.env) (SP X pins D) X.xe s
def PSs(X:Cx)(st:List Stmt)(t:TS):Prop :=
 ∀(pins:List (Addr×Obj)) (s:Shared) (σ:St) (H:Hp) (D:Ends),Inv X pins σ H s->t D σ H->wpAny (model X.prog X.w) X.A (execs st X.env) (SP X pins D) X.xe s
theorem thn{α:Type}{t:Sem α}{Q Q':α->Shared->Prop}{M:Model}{A:Around}{E:Value->Shared->Prop}{s:Shared}(h:wpAny M A t Q E s)(hQ:∀a s,Q a s->Q' a s):wpAny M A t Q' E s:=wpAny_mono h hQ fun _ _ x=>x
section
variable{X:Cx}
inductive tVar(i:Nat)(σ:St)(H:Hp)(Q:VK):Prop|mk(v:V)(h:σ[i]?=some (some v))(q:Q v H):tVar i σ H Q
def tC(v:V):TE:=fun _ H Q=>Q v H
theorem pe_var{i:Nat}{x:Str}{pos:Pos}(hN:X.N[i]?=some x)(hv:Vis X.env.scope x)(hd:autoParam ((x == ("__debug__":Str))=false) L2.aDec._auto_1)(hcd:autoParam ((x == ("__classdict__":Str))=false) L2.aDec._auto_1):PE X (.Name x pos) (tVar i):=by
 intro pins s σ H Q I h
 obtain⟨v,e,h⟩:=h
 obtain⟨m,hn,hl⟩:=I.loc
 obtain⟨u,r,l⟩:=hl i x v hN e hv
 have fin:EP X pins σ Q u s:=⟨v,H,I,r,h⟩
 rcases l with⟨hk,hm⟩ | ⟨hk,c,hc,hcell⟩
 .exact wpAny_Name (wpAny_loadName_local I.ok.kind hk hn hm fin) hd
 .rcases hk with hk | hk
  .exact wpAny_Name (wpAny_loadName_cell I.ok.kind hk hc hcell fin) hd
  .exact wpAny_Name (wpAny_loadName_free I.ok.kind hk hc hcell fin hcd) hd
theorem Qf{i j pos}:PE X (.Constant (.int i) j pos) (tC (.int i)):=fun _ _ _ H _ I h=>wpAny_Constant_int ⟨.int i,H,I.tok _,⟨_,rfl⟩,h⟩
theorem Km{b j pos}:PE X (.Constant (.bool b) j pos) (tC (.bl b)):=fun _ _ _ H _ I h=>Constant_bool ⟨.bl b,H,I,rfl,h⟩
theorem Ye{j pos}:PE X (.Constant .none j pos) (tC .non):=fun _ _ _ H _ I h=>Constant_none ⟨.non,H,I,rfl,h⟩
theorem Jf{x j pos}:PE X (.Constant (.str x) j pos) (tC (.str x)):=fun _ _ _ H _ I h=>Calls.Constant_str ⟨.str x,H,I.tok _,⟨_,rfl⟩,h⟩
def Gl(X:Cx)(x:Str):Prop:=X.env.kindOf x=some .globalImplicit
theorem Qel{E:Value->Shared->Prop}{pins:List (Addr×Obj)}{s:Shared}{σ:St}{H:Hp}{x:Str}{u:Value}{pos:Pos}{Q:Value->Shared->Prop}(I:Inv X pins σ H s)(hg:Gl X x)(hm:X.mg x=some u)(h:Q u s)
  (hd:autoParam ((x == ("__debug__":Str))=false) L2.aDec._auto_1):wpAny (model X.prog X.w) X.A (eval (.Name x pos) X.env) Q E s :=
 Calls.Name_function_global I.ok.kind hg (Calls.loadGlobal_global (by rw[I.ok.glob];exact I.mod.glob.keeps I.bk) hm h) hd
theorem Vr{E:Value->Shared->Prop}{pins:List (Addr×Obj)}{s:Shared}{σ:St}{H:Hp}{x:Str}{u:Value}{pos:Pos}{Q:Value->Shared->Prop}(I:Inv X pins σ H s)(hg:Gl X x)(hm:X.mg x=none)(hv:bootBuiltins x=some u)(h:Q u s)
  (hn:autoParam (x≠"__name__") L2.aDec._auto_1) (hd:autoParam ((x == ("__debug__":Str))=false) L2.aDec._auto_1):wpAny (model X.prog X.w) X.A (eval (.Name x pos) X.env) Q E s:=by
 obtain⟨mb,h1,h2⟩:=I.mod.blt
 exact Calls.Name_function_global I.ok.kind hg (Calls.loadGlobal_builtin (by rw[I.ok.glob];exact I.mod.glob.keeps I.bk) hm (by rw[I.ok.blt];exact h1.keeps I.bk) ((h2 x hn).trans hv) h) hd
theorem Qrc{x:Str}{v:V}{u:Value}{pos:Pos}(hg:Gl X x)(hm:X.mg x=some u)(r:RelV v u)(hd:autoParam ((x == ("__debug__":Str))=false) L2.aDec._auto_1):PE X (.Name x pos) (tC v) :=
 fun _ _ _ H _ I h=>Qel I hg hm ⟨v,H,I,r,h⟩ hd
theorem Qrd{x:Str}{v:V}{u:Value}{pos:Pos}(hg:Gl X x)(hm:X.mg x=none)(hv:bootBuiltins x=some u)(r:RelV v u)(hn:autoParam (x≠"__name__") L2.aDec._auto_1)(hd:autoParam ((x == ("__debug__":Str))=false) L2.aDec._auto_1):PE X (.Name x pos) (tC v) :=
 fun _ _ _ H _ I h=>Vr I hg hm hv ⟨v,H,I,r,h⟩ hn hd
variable{a b:Expr}{ta tb:TE}{pos:Pos}
def PC(X:Cx)(op:CmpOp)(a b:Expr)(t:TE):Prop :=
 ∀(pins:List (Addr×Obj)) (s:Shared) (σ:St) (H:Hp) (Q:VK),Inv X pins σ H s->t σ H Q ->
  wpAny (model X.prog X.w) X.A (eval a X.env) (fun v s₁=>wpAny (model X.prog X.w) X.A (eval b X.env) (fun u s₂=>wpAny (model X.prog X.w) X.A (compareOp op v u) (EP X pins σ Q) X.xe s₂) X.xe s₁) X.xe s
def tB(t:TE):TT:=fun σ H Q=>t σ H fun x H1=>∃c,x=.bl c/\Q c H1
theorem Qiv{op:CmpOp}{t:TE}(h:PC X op a b t)(h1:behindInMarks op b=false:=by first | exact nobehind _ Dc Dc | rfl):PT X (.Compare a [op] [b] pos) (tB t):=by
 intro pins s σ H Q I hw
 refine wpAny_isTrue_Compare1 (thn (h pins s σ H _ I hw) fun v s1 h1=>thn h1 fun u s2 h2=>thn h2 fun c s3 hqP=>?_) h1
 obtain⟨x,H1,I1,r1,q1⟩:=hqP
 obtain⟨d,rfl,q⟩:=q1
 cases r1
 exact wpAny_truthy_bool ⟨H1,I1,q⟩
theorem Xj{e:Expr}{t:TE}(h:PE X e t)(he:autoParam (∀whole,isTrue e X.env whole=(do let v ← whole;standAt e.pos;holding [v] (truthy v))) L2.aIrf._auto_1):PT X e (tB t):=by
 intro pins s σ H Q I hw
 refine isTrue_plain (thn (h pins s σ H _ I hw) fun v s1 hqP=>?_) (he _)
 obtain⟨x,H1,I1,r1,q1⟩:=hqP
 obtain⟨d,rfl,q⟩:=q1
 cases r1
 exact wpAny_truthy_bool ⟨H1,I1,q⟩
variable{tA tB':TT}{rest:List Expr}
def tAnd(t u:TT):TT:=fun σ H Q=>t σ H fun c H1=>if c=true then u σ H1 Q else Q false H1
def tOr(t u:TT):TT:=fun σ H Q=>t σ H fun c H1=>if c=true then Q true H1 else u σ H1 Q
def tNot(t:TT):TT:=fun σ H Q=>t σ H fun c H1=>Q (!c) H1
theorem Zb(ha:PT X a tA):PW X (.BoolOp .And [a] pos) tA:=by
 intro wh pins s σ H Q I h
 refine isTrue_and (thn (ha pins s σ H Q I h) fun c s1 e=>?_)
 cases c with
 |true=>exact isTrue_and_nil e
 |false=>exact e
theorem Kv(ha:PT X a tA):PW X (.BoolOp .Or [a] pos) tA:=by
 intro wh pins s σ H Q I h
 refine isTrue_or (thn (ha pins s σ H Q I h) fun c s1 e=>?_)
 cases c with
 |false=>exact isTrue_or_nil e
 |true=>exact e
theorem Yn(ha:PT X a tA)(hb:PW X (.BoolOp .And (b::rest) pos) tB'):PW X (.BoolOp .And (a::b::rest) pos) (tAnd tA tB'):=by
 intro wh pins s σ H Q I h
 refine isTrue_and (thn (ha pins s σ H _ I h) fun c s1 hqP=>?_)
 obtain⟨H1,I1,q1⟩:=hqP
 cases c with
 |true=>exact hb wh pins s1 σ H1 Q I1 q1
 |false=>exact⟨H1,I1,q1⟩
theorem Wh(ha:PT X a tA)(hb:PW X (.BoolOp .Or (b::rest) pos) tB'):PW X (.BoolOp .Or (a::b::rest) pos) (tOr tA tB'):=by
 intro wh pins s σ H Q I h
 refine isTrue_or (thn (ha pins s σ H _ I h) fun c s1 hqP=>?_)
 obtain⟨H1,I1,q1⟩:=hqP
 cases c with
 |true=>exact⟨H1,I1,q1⟩
 |false=>exact hb wh pins s1 σ H1 Q I1 q1
theorem Jg(ha:PT X a tA):PT X (.UnaryOp .Not a pos) (tNot tA):=by
 intro pins s σ H Q I h
 exact isTrue_not (ha pins s σ H (fun c H1=>Q (!c) H1) I h)
def tAndV(ta tb:TE):TE:=fun σ H Q=>ta σ H fun x H1=>∃c,x=.bl c/\if c=true then tb σ H1 Q else Q (.bl false) H1
def tNotV(ta:TE):TE:=fun σ H Q=>ta σ H fun x H1=>∃c,x=.bl c/\Q (.bl (!c)) H1
theorem Qcw{op}{t:TE}(h:PE X a t):PE X (.BoolOp op [a] pos) t:=fun pins s σ H Q I hw=>BoolOp_one (h pins s σ H Q I hw)
theorem Qaq(ha:PE X a ta)(hb:PE X (.BoolOp .And (b::rest) pos) tb):PE X (.BoolOp .And (a::b::rest) pos) (tAndV ta tb):=by
 intro pins s σ H Q I h
 refine BoolOp_and (thn (ha pins s σ H _ I h) fun v s1 hqP=>?_)
 obtain⟨x,H1,I1,r1,q1⟩:=hqP
 obtain⟨c,rfl,q1⟩:=q1
 cases r1
 refine wpAny_truthy_bool ?_
 cases c with
 |true=>exact hb pins s1 σ H1 Q I1 q1
 |false=>exact⟨.bl false,H1,I1,rfl,q1⟩
theorem Qpl(ha:PE X a ta):PE X (.UnaryOp .Not a pos) (tNotV ta):=by
 intro pins s σ H Q I h
 refine UnaryOp_ (thn (ha pins s σ H _ I h) fun v s1 hqP=>?_)
 obtain⟨x,H1,I1,r1,q1⟩:=hqP
 obtain⟨c,rfl,q1⟩:=q1
 cases r1
 exact not_of (wpAny_truthy_bool ⟨.bl (!c),H1,I1,rfl,q1⟩)
def tIf(t:TT)(ta tb:TE):TE:=fun σ H Q=>t σ H fun c H1=>if c=true then ta σ H1 Q else tb σ H1 Q
theorem Zq{c:Expr}(hc:PT X c tA)(ha:PE X a ta)(hb:PE X b tb):PE X (.IfExp c a b pos) (tIf tA ta tb):=by
 intro pins s σ H Q I h
 refine wpAny_IfExp (thn (hc pins s σ H _ I h) fun d s1 hqP=>?_)
 obtain⟨H1,I1,q1⟩:=hqP
 cases d with
 |true=>exact ha pins s1 σ H1 Q I1 q1
 |false=>exact hb pins s1 σ H1 Q I1 q1
end
def SqL(K:Fg)(H:Hp)(a:Addr)(xs:List V):Prop :=
 Rd H a (.lst xs) \/
  ∃(o:Obj) (its:Array Value) (n:Nat),K.lookup a=some o/\o.cls=.type "list"/\o.dict=none/\o.data=.seq its n/\its.size<=sizeLine/\Vals xs its.toList
def SqT(K:Fg)(H:Hp)(a:Addr)(xs:List V):Prop :=
 Rd H a (.tup xs) \/
  ∃(o:Obj) (its:Array Value) (n:Nat),K.lookup a=some o/\o.cls=.type "tuple"/\o.data=.seq its n/\its.size<=sizeLine/\Vals xs its.toList
def absV:Value->Option V
 |.none=>some .non
 |.bool b=>some (.bl b)
 |.int i _=>some (.int i)
 |.str x _=>some (.str x)
 |.bytes b _=>some (.byt b)
 |.float b _=>some (.flt b)
 |.ref a=>some (.ref a)
 |.type n=>some (.ty n)
 |_=>none
theorem RelV.abs{x:V}{u:Value}(r:RelV x u):absV u=some x:=by
 cases x with
 |non=>cases r;rfl
 |bl _=>cases r;rfl
 |int _=>obtain⟨t,rfl⟩:=r;rfl
 |str _=>obtain⟨t,rfl⟩:=r;rfl
 |byt _=>obtain⟨t,rfl⟩:=r;rfl
 |flt _=>obtain⟨t,rfl⟩:=r;rfl
 |ref _=>cases r;rfl
 |ty _=>cases r;rfl
theorem RelV.inj{x y:V}{u:Value}(r:RelV x u)(q:RelV y u):x=y:=Option.some.inj (r.abs.symm.trans q.abs)
theorem Vals.inj{xs ys:List V}{us:List Value}(h:Vals xs us)(g:Vals ys us):xs=ys:=by
 induction h generalizing ys with
 |nil=>cases g;rfl
 |cons r t ih=>
  cases g with
  |cons r' t'=>rw[r.inj r',ih t']
section
variable{X:Cx}{pins:List (Addr×Obj)}{σ:St}{H:Hp}{s:Shared}{a:Addr}{xs ys:List V}
theorem Inv.list(I:Inv X pins σ H s)(h:SqL X.K H a xs):∃its:List Value,Vals xs its/\PlainL s.heap a its.toArray/\xs.length<=sizeLine:=by
 rcases h with h | ⟨o,its,n,hk,hc,hd,hs,hz,r⟩
 .obtain⟨z,its,n,r,e⟩:=h.ok I.hok
  exact⟨its,r,⟨_,n,e,rfl,rfl,rfl⟩,z⟩
 .refine⟨its.toList,r,⟨o,n,I.kIn a o hk,hc,hd,by simpa using hs⟩,?_⟩
  have e:=r.length
  simp only[kXb]at e
  lia
theorem Inv.tuple(I:Inv X pins σ H s)(h:SqT X.K H a xs):∃its:List Value,Vals xs its/\IsTup s.heap a its.toArray/\xs.length<=sizeLine:=by
 rcases h with h | ⟨o,its,n,hk,hc,hs,hz,r⟩
 .obtain⟨z,its,r,p⟩:=h.ok I.hok
  exact⟨its,r,p,z⟩
 .refine⟨its.toList,r,⟨o,I.kIn a o hk,hc,n,by simpa using hs⟩,?_⟩
  have e:=r.length
  simp only[kXb]at e
  lia
theorem Inv.list_inj(I:Inv X pins σ H s)(h:SqL X.K H a xs)(h':SqL X.K H a ys):xs=ys:=by
 obtain⟨its,r,⟨o,n,e,_,_,d⟩,_⟩:=I.list h
 obtain⟨its',r',⟨o',n',e',_,_,d'⟩,_⟩:=I.list h'
 rw[e]at e';cases e'
 rw[d]at d'
 injection d' with d1 _
 have:its=its':=by simpa using congrArg Array.toList d1
 subst this
 exact r.inj r'
theorem Inv.tuple_inj(I:Inv X pins σ H s)(h:SqT X.K H a xs)(h':SqT X.K H a ys):xs=ys:=by
 obtain⟨its,r,⟨o,e,_,n,d⟩,_⟩:=I.tuple h
 obtain⟨its',r',⟨o',e',_,n',d'⟩,_⟩:=I.tuple h'
 rw[e]at e';cases e'
 rw[d]at d'
 injection d' with d1 _
 have:its=its':=by simpa using congrArg Array.toList d1
 subst this
 exact r.inj r'
end
abbrev Cx.wish(X:Cx)(E:Value->Shared->Prop):Cx:={ X with xe:=E }
abbrev Cx.nox(X:Cx):Cx:=X.wish fun _ _=>False
theorem Cx.Ok.wish{X:Cx}(ok:X.Ok)(E:Value->Shared->Prop):(X.wish E).Ok :=
 ⟨ok.mod,ok.kind,ok.glob,ok.blt,ok.above,ok.inj,ok.has,ok.cab,ok.hd,ok.frames,ok.stk,ok.exf,ok.bs,ok.bsz,ok.noex,ok.exfs,ok.funs,ok.frf⟩
theorem Cx.Ok.unwish{X:Cx}{E:Value->Shared->Prop}(ok:(X.wish E).Ok):X.Ok :=
 ⟨ok.mod,ok.kind,ok.glob,ok.blt,ok.above,ok.inj,ok.has,ok.cab,ok.hd,ok.frames,ok.stk,ok.exf,ok.bs,ok.bsz,ok.noex,ok.exfs,ok.funs,ok.frf⟩
section
variable{X:Cx}{pins:List (Addr×Obj)}{σ:St}{H:Hp}{s:Shared}{E:Value->Shared->Prop}
theorem Inv.wish(I:Inv X pins σ H s)(E:Value->Shared->Prop):Inv (X.wish E) pins σ H s:=⟨I.ok.wish E,I.os,I.bare,I.base,I.loc,I.cell,I.free,I.freeC,I.pin,I.hok,I.len⟩
theorem Inv.unwish(I:Inv (X.wish E) pins σ H s):Inv X pins σ H s:=⟨I.ok.unwish,I.os,I.bare,I.base,I.loc,I.cell,I.free,I.freeC,I.pin,I.hok,I.len⟩
theorem SP.unwish{D:Ends}{f:Flow}{s':Shared}(h:SP (X.wish E) pins D f s'):SP X pins D f s':=by
 cases f with
 |next=>obtain⟨σ',H',I,q⟩:=h;exact⟨σ',H',I.unwish,q⟩
 |brk=>obtain⟨σ',H',I,q⟩:=h;exact⟨σ',H',I.unwish,q⟩
 |cont=>obtain⟨σ',H',I,q⟩:=h;exact⟨σ',H',I.unwish,q⟩
 |ret u=>obtain⟨v,σ',H',I,r,q⟩:=h;exact⟨v,σ',H',I.unwish,r,q⟩
theorem PSs.nox{st:List Stmt}{t:TS}(h:PSs X.nox st t):PSs X st t:=fun pins s σ H D I hw=>
 wpAny_mono (h pins s σ H D (I.wish _) hw) (fun _ _ q=>q.unwish) fun _ _ z=>False.elim z
end
section
variable{X:Cx}{st:Stmt}{rest:List Stmt}{t u:TS}{e:Expr}{te:TE}{pos:Pos}
def tNext:TS:=fun D σ H=>D.nx σ H
def tSeq(t u:TS):TS:=fun D σ H=>t { D with nx:=u D } σ H
theorem Qv:PSs X [] tNext:=fun _ _ σ H _ I h=>wpAny_execs_nil ⟨σ,H,I,h⟩
theorem Qb(h1:PS X st t)(h2:PSs X rest u):PSs X (st::rest) (tSeq t u):=by
 intro pins s σ H D I h
 refine wpAny_execs_cons (thn (h1 pins s σ H { D with nx:=u D } I h) fun f s1 q=>?_)
 cases f with
 |next=>
  obtain⟨σ',H',I',q⟩:=q
  exact h2 pins s1 σ' H' D I' q
 |ret v=>exact q
 |brk=>exact q
 |cont=>exact q
theorem Qi(h1:PS X st t):PSs X [st] t:=by
 intro pins s σ H D I h
 refine wpAny_execs_cons (thn (h1 pins s σ H D I h) fun f s1 q=>?_)
 cases f with
 |next=>exact wpAny_execs_nil q
 |ret v=>exact q
 |brk=>exact q
 |cont=>exact q
theorem Inv.quiet{pins:List (Addr×Obj)}{σ:St}{H:Hp}{s:Shared}(I:Inv X pins σ H s):interactive X.env=false:=by simp[interactive,I.ok.kind]
def tDrop(te:TE):TS:=fun D σ H=>te σ H fun _ H1=>D.nx σ H1
theorem Ys(he:PE X e te)(hs:autoParam (swapsWith e none pos.line X.env=pure false) L2.aRfl._auto_1):PS X (.Expr e pos) (tDrop te):=by
 intro pins s σ H D I h
 exact wpAny_Expr_any (thn (he pins s σ H _ I h) fun v s1 ⟨x,H1,I1,r1,q1⟩=>⟨σ,H1,I1,q1⟩) I.quiet hs
def tRet(te:TE):TS:=fun D σ H=>te σ H D.rt
theorem Qs(he:PE X e te):PS X (.Return (some e) pos) (tRet te):=by
 intro pins s σ H D I h
 exact wpAny_Return_some (thn (he pins s σ H _ I h) fun v s1 ⟨x,H1,I1,r1,q1⟩=>⟨x,σ,H1,I1,r1,q1⟩)
def tIfS(c:TT)(t u:TS):TS:=fun D σ H=>c σ H fun b H1=>if b=true then t D σ H1 else u D σ H1
theorem Xi{c:Expr}{a b:List Stmt}{tc:TT}(hc:PT X c tc)(ha:PSs X a t)(hb:PSs X b u):PS X (.If c a b pos) (tIfS tc t u):=by
 intro pins s σ H D I h
 refine wpAny_If (thn (hc pins s σ H _ I h) fun d s1 hqP=>?_)
 obtain⟨H1,I1,q1⟩:=hqP
 cases d with
 |true=>exact ha pins s1 σ H1 D I1 q1
 |false=>exact hb pins s1 σ H1 D I1 q1
def tNever:TS:=fun _ _ _=>False
theorem Qmt:PS X st tNever:=fun _ _ _ _ _ _ h=>h.elim
end
abbrev TG:=V->St->Hp->(St->Hp->Prop)->Prop
abbrev TGs:=List V->St->Hp->(St->Hp->Prop)->Prop
def PG(X:Cx)(target:Expr)(t:TG):Prop :=
 ∀(pins:List (Addr×Obj)) (s:Shared) (σ:St) (H:Hp) (v:V) (u:Value) (Q:St->Hp->Prop),Inv X pins σ H s->RelV v u->t v σ H Q ->
  wpAny (model X.prog X.w) X.A (assign target X.env u) (fun _ s'=>∃σ' H',Inv X pins σ' H' s'/\Q σ' H') X.xe s
def PGs(X:Cx)(ts:List Expr)(t:TGs):Prop :=
 ∀(pins:List (Addr×Obj)) (s:Shared) (σ:St) (H:Hp) (vs:List V) (us:List Value) (Q:St->Hp->Prop),Inv X pins σ H s->Vals vs us->t vs σ H Q ->
  wpAny (model X.prog X.w) X.A (assignInOrder ((assignEach ts X.env).map (·.2)) us) (fun _ s'=>∃σ' H',Inv X pins σ' H' s'/\Q σ' H') X.xe s
abbrev TSet:=V->V->V->Hp->(Hp->Prop)->Prop
def PSet(X:Cx)(t:TSet):Prop :=
 ∀(pins:List (Addr×Obj)) (s:Shared) (σ:St) (H:Hp) (o i v:V) (ov iv u:Value) (Q:Hp->Prop),Inv X pins σ H s->RelV o ov->RelV i iv->RelV v u->t o i v H Q ->
  wpAny (model X.prog X.w) X.A (setItem ov iv u) (fun _ s'=>∃H',Inv X pins σ H' s'/\Q H') X.xe s
abbrev TIp:=V->V->Hp->VK->Prop
def PIp(X:Cx)(op:Operator)(t:TIp):Prop :=
 ∀(pins:List (Addr×Obj)) (s:Shared) (σ:St) (H:Hp) (x y:V) (v u:Value) (Q:VK),Inv X pins σ H s->RelV x v->RelV y u->t x y H Q ->
  wpAny (model X.prog X.w) X.A (inplaceOp op v u) (EP X pins σ Q) X.xe s
section
variable{X:Cx}{pos:Pos}
def Qbj(i:Nat):TG:=fun v σ H Q=>Q (σ.set i (some v)) H
theorem Qx{i:Nat}{x:Str}(hN:X.N.Nodup)(hi:X.N[i]?=some x)(hx:Loc X.env.scope x)(hf:autoParam (X.fn x=true\/X.env.scope.names.lookup x=some .local) L2.aFst._auto_1):PG X (.Name x pos) (Qbj i):=by
 intro pins s σ H v u Q I r h
 exact wpAny_assign_Name (Qbi I hN hi hx r (fun s' I'=>⟨_,H,I',h⟩) hf)
def gNil:TGs:=fun vs σ H Q=>vs=[]/\Q σ H
def Qre(t:TG)(u:TGs):TGs:=fun vs σ H Q=>∃v r,vs=v::r/\t v σ H fun σ' H'=>u r σ' H' Q
theorem Qbk:PGs X [] gNil:=by
 intro pins s σ H vs us Q I r h
 obtain⟨e,h⟩:=h
 subst e
 cases r
 exact assignInOrder_nil ⟨σ,H,I,h⟩
theorem Jh{e:Expr}{es:List Expr}{t:TG}{u:TGs}(h1:PG X e t)(h2:PGs X es u)
  (hs:autoParam ((assignEach (e::es) X.env).map (·.2)=assign e X.env::(assignEach es X.env).map (·.2)) L2.aRfl._auto_1):PGs X (e::es) (Qre t u):=by
 intro pins s σ H vs us Q I r h
 obtain⟨v,vr,e1,h⟩:=h
 subst e1
 cases r with
 |cons r rr=>
  rw[hs]
  refine assignInOrder_cons (thn (h1 pins s σ H _ _ _ I r h) fun _ s1 hqP=>?_)
  obtain⟨σ1,H1,I1,q1⟩:=hqP
  exact h2 pins s1 σ1 H1 _ _ Q I1 rr q1
def gTup(K:Fg)(n:Nat)(t:TGs):TG:=fun v σ H Q=>∃a xs,v=.ref a/\SqT K H a xs/\xs.length=n/\t xs σ H Q
theorem Qft{es:List Expr}{k:Nat}{t:TGs}{n:Nat}(hc:X.calm=true)(h:PGs X es t)
  (hn:autoParam ((assignEach es X.env).length=n) L2.aRfl._auto_1) (hst:autoParam ((assignEach es X.env).findIdx? (·.1)=none) L2.aRfl._auto_1):PG X (.Tuple es k pos) (gTup X.K n t):=by
 intro pins s σ H v u Q I r hw
 obtain⟨a,xs,e1,hq,hl,hw⟩:=hw
 subst e1
 cases r
 obtain⟨its,rv,ht,hz⟩:=I.tuple hq
 refine assign_Tuple_tuple (I.ok.hd hc) ht (by simp[hn,<-hl,rv.length]) hst fun h' hx=>?_
 have I1:Inv X pins σ H { s with heap:=h' }:=I.kept (t':=s.toks) fun b o e=>hx b o (zJ (yY e)) e
 exact h pins _ σ H xs _ Q I1 (by simpa using rv) hw
def gSub(to ti:TE)(t:TSet):TG:=fun v σ H Q=>to σ H fun o H1=>ti σ H1 fun i H2=>t o i v H2 fun H3=>Q σ H3
theorem Jx{o i:Expr}{to ti:TE}{t:TSet}(ho:PE X o to)(hi:PE X i ti)(hs:PSet X t)
  (ha:∀v,assign (.Subscript o i pos) X.env v=(do
   let ov ← holding [v] (eval o X.env)
   let iv ← holding [v,ov] (eval i X.env)
   standAt pos
   holding [v,ov,iv] (setItem ov iv v)
   release [v,ov,iv] []):=by intro _;rfl):PG X (.Subscript o i pos) (gSub to ti t):=by
 intro pins s σ H v u Q I r h
 rw[ha]
 refine jX (wpAny_holding (thn (ho pins s σ H _ I h) fun ov s1 hqP=>?_))
 obtain⟨x,H1,I1,r1,q1⟩:=hqP
 refine jX (wpAny_holding (thn (hi pins s1 σ H1 _ I1 q1) fun iv s2 hqP=>?_))
 obtain⟨y,H2,I2,r2,q2⟩:=hqP
 refine jX (wpAny_standAt (jX (wpAny_holding (thn (hs pins s2 σ H2 x y v ov iv u _ I2 r1 r2 r q2) fun _ s3 hqP=>?_))))
 obtain⟨H3,I3,q3⟩:=hqP
 exact wpAny_release ⟨σ,H3,I3,q3⟩
def tAsg(te:TE)(g:TG):TS:=fun D σ H=>te σ H fun x H1=>g x σ H1 D.nx
theorem Js{tg e:Expr}{te:TE}{g:TG}(he:PE X e te)(hg:PG X tg g)(hs:autoParam (swapsWithSole [tg] e pos.line X.env=pure false) L2.aRfl._auto_1)(hw:autoParam (swappedStores [tg] e X.env=pure none) L2.aRfl._auto_1)
  (h1:autoParam ((assignEach [tg] X.env).map (·.2)=[assign tg X.env]) L2.aRfl._auto_1):PS X (.Assign [tg] e pos) (tAsg te g):=by
 intro pins s σ H D I h
 refine wpAny_Assign_stores (thn (he pins s σ H _ I h) fun v s1 hqP=>?_) hs hw
 obtain⟨x,H1,I1,r1,q1⟩:=hqP
 rw[h1]
 exact thn (hg pins s1 σ H1 x v _ I1 r1 q1) fun _ s2 q=>q
theorem Qp{i:Nat}{x:Str}{e:Expr}{te:TE}{pos':Pos}(hN:X.N.Nodup)(hi:X.N[i]?=some x)(hx:Loc X.env.scope x)(he:PE X e te)(hs:autoParam (swapsWith e (some (.Name x pos')) pos.line X.env=pure false) L2.aRfl._auto_1)(hf:autoParam (X.fn x=true\/X.env.scope.names.lookup x=some .local) L2.aFst._auto_1) :
  PS X (.Assign [.Name x pos'] e pos) (tAsg te (Qbj i)):=by
 intro pins s σ H D I h
 refine wpAny_Assign_Name (thn (he pins s σ H _ I h) fun v s1 hqP=>?_) hs
 obtain⟨y,H1,I1,r1,q1⟩:=hqP
 exact Qbi I1 hN hi hx r1 (fun s2 I2=>⟨_,H1,I2,q1⟩) hf
def tAug(i:Nat)(te:TE)(ti:TIp):TS:=fun D σ H=>∃x,σ[i]?=some (some x)/\te σ H fun y H1=>ti x y H1 fun z H2=>D.nx (σ.set i (some z)) H2
theorem Qpm{i:Nat}{x:Str}{e:Expr}{te:TE}{op:Operator}{ti:TIp}{pos':Pos}(hN:X.N.Nodup)(hi:X.N[i]?=some x)(hx:Loc X.env.scope x)(he:PE X e te)(ho:PIp X op ti)(hf:autoParam (X.fn x=true\/X.env.scope.names.lookup x=some .local) L2.aFst._auto_1) :
  PS X (.AugAssign (.Name x pos') op e pos) (tAug i te ti):=by
 intro pins s σ H D I h
 obtain⟨v,e1,h⟩:=h
 obtain⟨m,hn,hl⟩:=I.loc
 have vis:Vis X.env.scope x:=by rcases hx with k | k;exact .inl k;exact .inr (.inl k)
 obtain⟨u,r,l⟩:=hl i x v hi e1 vis
 refine wpAny_AugAssign_Name ?_
 have go:wpAny (model X.prog X.w) X.A (eval e X.env) (fun w s₂=>wpAny (model X.prog X.w) X.A (inplaceOp op u w) (fun r s₃=>wpAny (model X.prog X.w) X.A (storeName X.env x r) (fun _=>SP X pins D .next) X.xe s₃) X.xe s₂) X.xe s:=by
  refine thn (he pins s σ H _ I h) fun w s1 hqP=>?_
  obtain⟨y,H1,I1,r1,q1⟩:=hqP
  refine thn (ho pins s1 σ H1 v y u w _ I1 r r1 q1) fun z s2 hqP=>?_
  obtain⟨zv,H2,I2,r2,q2⟩:=hqP
  exact Qbi I2 hN hi hx r2 (fun s3 I3=>⟨_,H2,I3,q2⟩) hf
 rcases l with⟨hk,hm⟩ | ⟨hk,c,hc,hcell⟩
 .exact wpAny_loadName_local I.ok.kind hk hn hm go
 .rcases hk with hk | hk
  .exact wpAny_loadName_cell I.ok.kind hk hc hcell go
  .rcases hx with k | k
   .have:X.env.scope.names.lookup x=some .free:=hk
    rw[k]at this;cases this
   .have:X.env.scope.names.lookup x=some .free:=hk
    rw[k]at this;cases this
def tAugS(to ti te:TE)(tget:V->V->Hp->VK->Prop)(tip:TIp)(tset:TSet):TS:=fun D σ H=>to σ H fun o H1=>ti σ H1 fun i H2=>tget o i H2 fun x H3=>te σ H3 fun y H4=>tip x y H4 fun z H5=>tset o i z H5 fun H6=>D.nx σ H6
def PGet(X:Cx)(t:V->V->Hp->VK->Prop):Prop :=
 ∀(pins:List (Addr×Obj)) (s:Shared) (σ:St) (H:Hp) (o i:V) (ov iv:Value) (Q:VK),Inv X pins σ H s->RelV o ov->RelV i iv->t o i H Q ->
  wpAny (model X.prog X.w) X.A (getItem ov iv) (EP X pins σ Q) X.xe s
theorem Ve{o i e:Expr}{to ti te:TE}{tget:V->V->Hp->VK->Prop}{tip:TIp}{tset:TSet}{op:Operator}{tpos:Pos}(ho:PE X o to)(hi:PE X i ti)(hg:PGet X tget)(he:PE X e te)(hp:PIp X op tip)(hs:PSet X tset)
  (ha:∀ov iv new,augStore i ov iv new=(do holding [new,ov,iv] (setItem ov iv new);release [new,ov,iv] [];pure .next):=by intros;rfl):PS X (.AugAssign (.Subscript o i tpos) op e pos) (tAugS to ti te tget tip tset):=by
 intro pins s σ H D I h
 refine wpAny_AugAssign_SubscriptAny (thn (ho pins s σ H _ I h) fun ov s1 hqP=>?_) ha
 obtain⟨x1,H1,I1,r1,q1⟩:=hqP
 refine thn (hi pins s1 σ H1 _ I1 q1) fun iv s2 hqP=>?_
 obtain⟨x2,H2,I2,r2,q2⟩:=hqP
 refine thn (hg pins s2 σ H2 x1 x2 ov iv _ I2 r1 r2 q2) fun old s3 hqP=>?_
 obtain⟨x3,H3,I3,r3,q3⟩:=hqP
 refine thn (he pins s3 σ H3 _ I3 q3) fun v s4 hqP=>?_
 obtain⟨x4,H4,I4,r4,q4⟩:=hqP
 refine thn (hp pins s4 σ H4 x3 x4 old v _ I4 r3 r4 q4) fun new s5 hqP=>?_
 obtain⟨x5,H5,I5,r5,q5⟩:=hqP
 exact thn (hs pins s5 σ H5 x1 x2 x5 ov iv new _ I5 r1 r2 r5 q5) fun _ s6 ⟨H6,I6,q6⟩=>⟨σ,H6,I6,q6⟩
def ipI(f:Int->Int->Int):TIp:=fun x y H Q=>∃i j,x=.int i/\y=.int j/\Q (.int (f i j)) H
theorem Qar:PIp X .Add (ipI fun i j=>i+j):=by
 intro pins s σ H x y v u Q I r1 r2 h
 obtain⟨i,j,e1,e2,q⟩:=h
 subst e1;subst e2
 obtain⟨t,rfl⟩:=r1
 obtain⟨t',rfl⟩:=r2
 exact iadd_int ⟨.int _,H,I.tok _,⟨_,rfl⟩,q⟩
theorem Qpn:PIp X .Sub (ipI fun i j=>i-j):=by
 intro pins s σ H x y v u Q I r1 r2 h
 obtain⟨i,j,e1,e2,q⟩:=h
 subst e1;subst e2
 obtain⟨t,rfl⟩:=r1
 obtain⟨t',rfl⟩:=r2
 exact isub_int ⟨.int _,H,I.tok _,⟨_,rfl⟩,q⟩
end
section
variable{X:Cx}{pos:Pos}
def Qpo(c:TT)(tb:TS):TS:=fun D σ H=>∃W:Nat->St->Hp->Prop,(∃m,W m σ H)/\∀m σ H,W m σ H ->
 c σ H fun b H1=>if b=true then ∃N:St->Hp->Prop,(∀σ' H',N σ' H'->∃m',m'<m/\W m' σ' H')/\tb { D with nx:=N,ct:=N,bk:=D.nx } σ H1 else D.nx σ H1
theorem Qbl{c:Expr}{body:List Stmt}{tc:TT}{tb:TS}(hp:PassesOwn (model X.prog X.w) X.A X.env X.xe)(hc:PT X c tc)(hb:PSs X body tb):PS X (.While c body [] pos) (Qpo tc tb):=by
 intro pins s σ H D I h
 obtain⟨W,⟨m0,w0⟩,turn⟩:=h
 refine wpAny_While (codeAny_whileLoop (fun n s'=>∃σ' H',Inv X pins σ' H' s'/\W n σ' H') ?_ m0 ⟨σ,H,I,w0⟩)
 rintro n s1 ⟨σ1,H1,I1,w1⟩
 refine wpAny_passesOwn hp (thn (hc pins s1 σ1 H1 _ I1 (turn n σ1 H1 w1)) fun b s2 hqP=>?_)
 obtain⟨H2,I2,q2⟩:=hqP
 cases b with
 |true=>
  obtain⟨N,hN,q2⟩:=q2
  rw[if_pos rfl]
  refine wpAny_passesOwn hp (thn (hb pins s2 σ1 H2 _ I2 q2) fun f s3 q3=>?_)
  cases f with
  |next=>
   obtain⟨σ3,H3,I3,n3⟩:=q3
   obtain⟨m',hm,w3⟩:=hN σ3 H3 n3
   exact⟨m',hm,σ3,H3,I3,w3⟩
  |cont=>
   obtain⟨σ3,H3,I3,n3⟩:=q3
   obtain⟨m',hm,w3⟩:=hN σ3 H3 n3
   exact⟨m',hm,σ3,H3,I3,w3⟩
  |brk=>exact q3
  |ret v=>exact q3
 |false=>
  rw[if_neg zW]
  exact wpAny_execs_nil ⟨σ1,H2,I2,q2⟩
end
set_option genInjectivity false in
set_option genInjectivity false in
structure It where
 go:Nat->Hp->Prop
 yld:Nat->Hp->V->Hp->Prop
 stop:Nat->Hp->Prop
def FpOk(X:Cx)(pins:List (Addr×Obj))(H:Hp)(b:Addr):Prop :=
 H b=none/\b≠X.env.locals/\b∉X.fs/\(b∈X.ex\/X.s₀.heap.objs.size<=b)/\(∀x c,X.env.cells.lookup x=some c->c≠b)/\∀p∈X.pn++pins,p.1≠b
theorem Inv.fpOk{X:Cx}{pins:List (Addr×Obj)}{σ:St}{H H':Hp}{s:Shared}{b:Addr}(I:Inv X pins σ H s)(hb:s.heap.objs.size<=b)(hn:H' b=none):FpOk X pins H' b:=by
 refine⟨hn,Nat.ne_of_gt (xY I.lt hb),I.nofs hb,.inr (jQb I.sz hb),fun x c e z=>?_,fun p hp z=>?_⟩
 .obtain⟨v,q⟩:=I.cell x c e
  exact absurd (xY q.lt (by rw[z];exact hb)) (wW _)
 .exact absurd (xY (yY (I.pin p hp).1) (by rw[z];exact hb)) (wW _)
structure Turn(P:Program)(w:World)(K:Fg)(tg:Expr)(J:It)(fp:List Addr)(it:Addr)(tn:Nat->Heap->Prop):Prop where
 mem:it∈fp
 obj:∀i h,tn i h->∀b∈fp,∃o,h.get? b=some o/\∀v,o.data≠.cell v
 keep:∀i h h',tn i h->(∀b∈fp,∀o,h.get? b=some o->h'.get? b=some o)->tn i h'
 item:∀(X:Cx),X.prog=P->X.w=w->X.K=K->X.calm=true->∀(i:Nat) (pins:List (Addr×Obj)) (s:Shared) (σ:St) (H:Hp) (E:Value->Shared->Prop),Inv X pins σ H s->(∀b∈fp,FpOk X pins H b)->tn i s.heap->J.go i H ->
  wpAny (model P w) X.A (pyNext (.ref it)) (fun r s1=>∃u,r=some u /\
   wpAny (model P w) X.A (letOwnedTupleGo tg (.ref it) u) (fun _ s2=>∃x H',Inv X pins σ H' s2/\RelV x u/\J.yld i H x H'/\tn (i+1) s2.heap/\∀b∈fp,H' b=none) E s1) E s
 done:∀(X:Cx),X.prog=P->X.w=w->X.K=K->X.calm=true->∀(i:Nat) (pins:List (Addr×Obj)) (s:Shared) (σ:St) (H:Hp) (E:Value->Shared->Prop),Inv X pins σ H s->(∀b∈fp,FpOk X pins H b)->tn i s.heap->J.stop i H ->
  wpAny (model P w) X.A (pyNext (.ref it)) (fun r s1=>r=none/\Inv X pins σ H s1) E s
 self:∀(A:Around) (i:Nat) (s:Shared) (Q:Value->Shared->Prop) (E:Value->Shared->Prop),tn i s.heap->Q (.ref it) s->wpAny (model P w) A (pyIter (.ref it)) Q E s
abbrev TI:=St->Hp->(It->Hp->Prop)->Prop
def PIE(X:Cx)(pins:List (Addr×Obj))(σ:St)(tg:Expr)(R:It->Hp->Prop)(itv:Value)(s2:Shared):Prop :=
 ∃(it:Addr) (fp:List Addr) (tn:Nat->Heap->Prop) (J:It) (H':Hp),itv=.ref it/\Inv X pins σ H' s2/\Turn X.prog X.w X.K tg J fp it tn/\tn 0 s2.heap/\(∀b∈fp,FpOk X pins H' b)/\R J H'
def PI(X:Cx)(tg iter:Expr)(wi:TI):Prop :=
 ∀(pins:List (Addr×Obj)) (s:Shared) (σ:St) (H:Hp) (R:It->Hp->Prop),Inv X pins σ H s->wi σ H R ->
  wpAny (model X.prog X.w) X.A (eval iter X.env) (fun v s1=>wpAny (model X.prog X.w) X.A (pyIter v) (PIE X pins σ tg R) X.xe s1) X.xe s
theorem Qiw {M:Model} {A:Around} {E:Value->Shared->Prop} {s:Shared} {tg:Expr} {it:Addr} {u:Value} {o:Obj} {n:String} {vs:Array Value} {Q:Unit->Shared->Prop} (ho:s.heap.get? it=some o) (hc:o.cls=.type n) (hd:o.data=.fields vs)
    (hn:["enumerate","zip","dict_itemiterator","dict_reverseitemiterator","odict_iterator","itertools.zip_longest","itertools.pairwise"].contains n=false) (hQ:Q () s):wpAny M A (letOwnedTupleGo tg (.ref it) u) Q E s:=by
  unfold letOwnedTupleGo
  cases tg<;>first
    |exact zX hQ
    | (cases u <;> first
        |exact zX hQ
        | (refine jX (wpAny_load ho ?_)
           rw[hc,hd]
           show wpAny M A (if (["enumerate","zip","dict_itemiterator","dict_reverseitemiterator","odict_iterator","itertools.zip_longest","itertools.pairwise"].contains n&&vs[0]? == some (rawInt _))=true then _ else _) Q E s
           rw[if_neg (by intro h;rw[hn,Bool.false_and]at h;cases h)]
           exact zX hQ))
def Itl(K:Fg)(a:Addr):It :=
 ⟨fun i H=>∃xs x,SqL K H a xs/\xs[i]?=some x,fun i H x H'=>H'=H/\∀xs,SqL K H a xs->xs[i]?=some x,fun i H=>∃xs,SqL K H a xs/\xs.length<=i⟩
def Itt(K:Fg)(a:Addr):It :=
 ⟨fun i H=>∃xs x,SqT K H a xs/\xs[i]?=some x,fun i H x H'=>H'=H/\∀xs,SqT K H a xs->xs[i]?=some x,fun i H=>∃xs,SqT K H a xs/\xs.length<=i⟩
def Itr(lo:Int)(n:Nat):It:=⟨fun i _=>i<n,fun i H x H'=>H'=H/\x=.int (lo+i),fun i _=>n<=i⟩
theorem Qix{P:Program}{w:World}{K:Fg}{tg:Expr}(a it:Addr):Turn P w K tg (Itl K a) [it] it (fun i h=>h.IsListIter it a i) where
 mem:=by simp
 obj:=fun i h st b hb=>by
  have e:b=it:=by simpa using hb
  subst e
  obtain⟨o,e,c,d⟩:=st
  exact⟨o,e,fun v z=>by rw[d]at z;cases z⟩
 keep:=fun i h h' st k=>st.at fun o e=>k it (by simp) o e
 item:=by
  intro X hP hw hK hc i pins s σ H E I hf st hg
  subst hP hw hK
  obtain⟨xs,x,hq,hx⟩:=hg
  obtain⟨its,rv,p,hz⟩:=I.list hq
  obtain⟨u,hu,ru⟩:=rv.get hx
  obtain⟨f0,f1,f2,f3,f4,f5⟩:=hf it (by simp)
  refine wpAny_pyNext_list_item st p.isList (x:=u) (by simpa using hu) fun h' st' sb=>?_
  have I1:Inv X pins σ H { s with heap:=h' }:=I.turned (t':=s.toks) (fun b o hb e=>(sb.2 b hb).trans e) f0 f1 f3 f4 f5
  obtain⟨o,e,c,d⟩:=id st'
  exact⟨u,rfl,Qiw (s:={ s with heap:=h' }) e c d Dc ⟨x,H,I1,ru,⟨rfl,fun ys hy=>by rw[I.list_inj hy hq];exact hx⟩,st',fun b hb=>(hf b hb).1⟩⟩
 done:=by
  intro X hP hw hK hc i pins s σ H E I hf st hg
  subst hP hw hK
  obtain⟨xs,hq,hx⟩:=hg
  obtain⟨its,rv,p,hz⟩:=I.list hq
  obtain⟨f0,f1,f2,f3,f4,f5⟩:=hf it (by simp)
  have hl:=rv.length
  exact wpAny_pyNext_list_end (I.ok.hd hc) st p.isList (by simp;lia) fun h' eb=>⟨rfl,I.turned (t':=s.toks) (fun b o hb e=>eb b o hb e) f0 f1 f3 f4 f5⟩
 self:=fun _ _ _ _ _ st h=>wpAny_pyIter_listiter st h
theorem Qgy{P:Program}{w:World}{K:Fg}{tg:Expr}(a it:Addr):Turn P w K tg (Itt K a) [it] it (fun i h=>h.IsTupleIter it a i) where
 mem:=by simp
 obj:=fun i h st b hb=>by
  have e:b=it:=by simpa using hb
  subst e
  obtain⟨o,e,c,d⟩:=st
  exact⟨o,e,fun v z=>by rw[d]at z;cases z⟩
 keep:=fun i h h' st k=>st.at fun o e=>k it (by simp) o e
 item:=by
  intro X hP hw hK hc i pins s σ H E I hf st hg
  subst hP hw hK
  obtain⟨xs,x,hq,hx⟩:=hg
  obtain⟨its,rv,p,hz⟩:=I.tuple hq
  obtain⟨u,hu,ru⟩:=rv.get hx
  obtain⟨f0,f1,f2,f3,f4,f5⟩:=hf it (by simp)
  refine wpAny_pyNext_tuple_item st (show s.heap.IsTuple a its.toArray from p) (x:=u) (by simpa using hu) fun h' st' sb=>?_
  have I1:Inv X pins σ H { s with heap:=h' }:=I.turned (t':=s.toks) (fun b o hb e=>(sb.2 b hb).trans e) f0 f1 f3 f4 f5
  obtain⟨o,e,c,d⟩:=id st'
  exact⟨u,rfl,Qiw (s:={ s with heap:=h' }) e c d Dc ⟨x,H,I1,ru,⟨rfl,fun ys hy=>by rw[I.tuple_inj hy hq];exact hx⟩,st',fun b hb=>(hf b hb).1⟩⟩
 done:=by
  intro X hP hw hK hc i pins s σ H E I hf st hg
  subst hP hw hK
  obtain⟨xs,hq,hx⟩:=hg
  obtain⟨its,rv,p,hz⟩:=I.tuple hq
  obtain⟨f0,f1,f2,f3,f4,f5⟩:=hf it (by simp)
  have hl:=rv.length
  exact wpAny_pyNext_tuple_end (I.ok.hd hc) st (show s.heap.IsTuple a its.toArray from p) (by simp;lia) fun h' eb=>⟨rfl,I.turned (t':=s.toks) (fun b o hb e=>eb b o hb e) f0 f1 f3 f4 f5⟩
 self:=fun _ _ _ _ _ st h=>wpAny_pyIter_tupleiter st h
theorem Qgz{P:Program}{w:World}{K:Fg}{tg:Expr}(it:Addr)(lo:Int)(n:Nat):Turn P w K tg (Itr lo n) [it] it (fun i h=>IsRangeIter h it (lo+(i:Nat)*1) ((n:Int)-(i:Nat)) 1) where
 mem:=by simp
 obj:=fun i h st b hb=>by
  have e:b=it:=by simpa using hb
  subst e
  exact⟨_,st,fun v z=>by
   have z':Data.fields _=Data.cell v:=z
   cases z'⟩
 keep:=fun i h h' st k=>k it (by simp) _ st
 item:=by
  intro X hP hw hK hc i pins s σ H E I hf st hg
  subst hP hw hK
  obtain⟨f0,f1,f2,f3,f4,f5⟩:=hf it (by simp)
  have W:=Walks.range (prog:=X.prog) (w:=X.w) (I.ok.hd hc) it lo 1 n
  refine W.item i s _ _ hg st fun v h' tk hv st' kk=>?_
  obtain⟨t,rfl⟩:=hv
  have I1:Inv X pins σ H { s with heap:=h',toks:=tk }:=I.turned (fun b o hb e=>kk b o (by simpa using hb) e) f0 f1 f3 f4 f5
  refine⟨_,rfl,Qiw (s:={ s with heap:=h',toks:=tk }) (n:="range_iterator") st' rfl rfl Dc ⟨.int (lo+i),H,I1,⟨t,?_⟩,⟨rfl,rfl⟩,st',fun b hb=>(hf b hb).1⟩⟩
  rw[jKe]
 done:=by
  intro X hP hw hK hc i pins s σ H E I hf st hg
  subst hP hw hK
  obtain⟨f0,f1,f2,f3,f4,f5⟩:=hf it (by simp)
  exact wpAny_pyNext_range_end (I.ok.hd hc) st (by have:n<=i:=hg;lia) fun h' eb=>⟨rfl,I.turned (t':=s.toks) (fun b o hb e=>eb b o hb e) f0 f1 f3 f4 f5⟩
 self:=fun _ _ _ _ _ st h=>wpAny_pyIter_rangeiter st h
section
variable{X:Cx}{tg:Expr}
def iList(K:Fg)(tl:TE):TI:=fun σ H R=>tl σ H fun x H1=>∃a,x=.ref a/\(∃xs,SqL K H1 a xs)/\R (Itl K a) H1
def iTup(K:Fg)(tl:TE):TI:=fun σ H R=>tl σ H fun x H1=>∃a,x=.ref a/\(∃xs,SqT K H1 a xs)/\R (Itt K a) H1
theorem Xn{l:Expr}{tl:TE}(hl:PE X l tl):PI X tg l (iList X.K tl):=by
 intro pins s σ H R I h
 refine thn (hl pins s σ H _ I h) fun v s1 hqP=>?_
 obtain⟨x,H1,I1,r1,q1⟩:=hqP
 obtain⟨a,e,⟨xs,hq⟩,q⟩:=q1
 subst e
 cases r1
 obtain⟨its,rv,p,hz⟩:=I1.list hq
 refine wpAny_pyIter_list p.isList ?_
 refine⟨s1.heap.objs.size,[s1.heap.objs.size],_,_,H1,rfl,I1.kept (t':=s1.toks) fun b o e=>jK _ e,Qix a _,⟨_,yJ _ rfl,rfl,rfl⟩,fun b hb=>?_,q⟩
 have e:b=s1.heap.objs.size:=by simpa using hb
 subst e
 exact I1.fpOk (jY _) (I1.hok.fresh (jY _))
theorem Ki{l:Expr}{tl:TE}(hl:PE X l tl):PI X tg l (iTup X.K tl):=by
 intro pins s σ H R I h
 refine thn (hl pins s σ H _ I h) fun v s1 hqP=>?_
 obtain⟨x,H1,I1,r1,q1⟩:=hqP
 obtain⟨a,e,⟨xs,hq⟩,q⟩:=q1
 subst e
 cases r1
 obtain⟨its,rv,p,hz⟩:=I1.tuple hq
 refine wpAny_pyIter_tuple (show s1.heap.IsTuple a its.toArray from p) ?_
 refine⟨s1.heap.objs.size,[s1.heap.objs.size],_,_,H1,rfl,I1.kept (t':=s1.toks) fun b o e=>jK _ e,Qgy a _,⟨_,yJ _ rfl,rfl,rfl⟩,fun b hb=>?_,q⟩
 have e:b=s1.heap.objs.size:=by simpa using hb
 subst e
 exact I1.fpOk (jY _) (I1.hok.fresh (jY _))
theorem Qmu{pins:List (Addr×Obj)}{σ:St}{H:Hp}{s:Shared}{R:It->Hp->Prop}{E:Value->Shared->Prop}{lo hi:Int}{t u v:Tok}{tk:Nat}(I:Inv X pins σ H s)(h1:-(2 ^ 62)<=lo)(h2:lo<2 ^ 62)(h3:-(2 ^ 62)<=hi)(h4:hi<2 ^ 62)
  (q:R (Itr lo (hi-lo).toNat) H):wpAny (model X.prog X.w) X.A (pyIter (.ref s.heap.objs.size)) (PIE X pins σ tg R) E { s with heap:=s.heap.push { cls:=.type "range",data:=.fields #[.int lo t,.int hi u,.int 1 v] },toks:=tk }:=by
 refine wpAny_pyIter_range (IsRange.new ..) (small_one h1 h2 h3 h4) ?_
 have I1:Inv X pins σ H { s with heap:=s.heap.push { cls:=.type "range",data:=.fields #[.int lo t,.int hi u,.int 1 v] },toks:=tk }:=I.kept fun b o e=>jK _ e
 refine⟨(s.heap.push { cls:=.type "range",data:=.fields #[.int lo t,.int hi u,.int 1 v] }).objs.size,[(s.heap.push { cls:=.type "range",data:=.fields #[.int lo t,.int hi u,.int 1 v] }).objs.size],_,_,H,rfl,
  I1.kept (t':=tk) fun b o e=>jK _ e,Qgz _ lo (hi-lo).toNat,?_,fun b hb=>?_,q⟩
 .have e1:lo+((0:Nat):Int)*1=lo:=by simp
  have e2:(((hi-lo).toNat:Nat):Int)-((0:Nat):Int)=Builtin.Range.rangeSize lo hi 1:=by rw[rangeSize_one];split<;>lia
  show IsRangeIter _ _ (lo+((0:Nat):Int)*1) ((((hi-lo).toNat:Nat):Int)-((0:Nat):Int)) 1
  rw[e1,e2]
  exact yJ _ rfl
 .have e:b=(s.heap.push { cls:=.type "range",data:=.fields #[.int lo t,.int hi u,.int 1 v] }).objs.size:=by simpa using hb
  subst e
  exact I1.fpOk (jY _) (I1.hok.fresh (jY _))
def iRng1(ta:TA):TI:=fun σ H R=>ta σ H fun vs H1=>∃j:Int,vs=[.int j]/\-(2 ^ 62)<=j/\j<2 ^ 62/\R (Itr 0 j.toNat) H1
theorem Yo{a:Expr}{ta:TA}{p pos:Pos}(hg:Gl X "range")(hm:X.mg "range"=none)(ha:PA X [a] ta)(hs:autoParam (starEach [a] X.env=[(false,eval a X.env)]) L2.aRfl._auto_1):PI X tg (.Call (.Name "range" p) [a] [] pos) (iRng1 ta):=by
 intro pins s σ H R I h
 refine Call_ (Vr I hg hm boot_range (PyProof.Rows.callWith_type1 (thn (ha pos pins s σ H _ I h) fun us s1 hqP=>?_) hs rfl))
 obtain⟨vs,H1,I1,r1,q1⟩:=hqP
 obtain⟨j,e,q1,q2,q⟩:=q1
 subst e
 cases r1 with
 |cons r rr=>
  cases rr
  obtain⟨t,rfl⟩:=r
  exact call_range_1 (Qmu I1 Om Om q1 q2 (by simpa using q))
def tFor(wi:TI)(g:TG)(tb:TS):TS:=fun D σ H=>wi σ H fun J H1=>∃W:Nat->Nat->St->Hp->Prop,(∃m,W 0 m σ H1)/\∀i m σ H,W i m σ H ->
 (J.stop i H/\D.nx σ H)\/(J.go i H/\∃N:St->Hp->Prop,(∀σ' H',N σ' H'->∃m',m'<m/\W (i+1) m' σ' H')/\∀x H',J.yld i H x H'->g x σ H' fun σ2 H2=>tb { D with nx:=N,ct:=N,bk:=D.nx } σ2 H2)
def Qcx(fp:List Addr)(h:Heap):List (Addr×Obj):=fp.filterMap fun b=>(h.get? b).map fun o=>(b,o)
theorem Kb{fp:List Addr}{h:Heap}{b:Addr}{o:Obj}(hb:b∈fp)(e:h.get? b=some o):(b,o)∈Qcx fp h:=List.mem_filterMap.mpr ⟨b,hb,by rw[e];rfl⟩
theorem Qiy{fp:List Addr}{h:Heap}{p:Addr×Obj}(hp:p∈Qcx fp h):p.1∈fp/\h.get? p.1=some p.2:=by
 obtain⟨b,hb,e⟩:=List.mem_filterMap.mp hp
 cases q:h.get? b with
 |none=>rw[q]at e;cases e
 |some o=>
  rw[q]at e
  have e':(b,o)=p:=Option.some.inj e
  subst e'
  exact⟨hb,q⟩
theorem Inv.pinned{pins:List (Addr×Obj)}{σ:St}{H:Hp}{s:Shared}{fp:List Addr}(I:Inv X pins σ H s)(hf:∀b∈fp,FpOk X pins H b)(ho:∀b∈fp,∃o,s.heap.get? b=some o/\∀v,o.data≠.cell v):Inv X (pins++Qcx fp s.heap) σ H s :=
 I.pins_of fun p hp=>(zY.mp hp).elim (fun z=>I.pin p (wK _ z)) fun z=>by
  obtain⟨hb,e⟩:=Qiy z
  obtain⟨f0,f1,f2,_⟩:=hf p.1 hb
  obtain⟨o,e',d⟩:=ho p.1 hb
  rw[e]at e';cases e'
  exact⟨e,f0,f1,f2,d⟩
theorem Inv.unpinned{pins pl:List (Addr×Obj)}{σ:St}{H:Hp}{s:Shared}(I:Inv X (pins++pl) σ H s):Inv X pins σ H s:=I.pins_of fun p hp=>I.pin p (wK _ (kZa _ hp))
theorem Yf{iter:Expr}{body:List Stmt}{wi:TI}{g:TG}{tb:TS}{pos:Pos}(hp:PassesOwn (model X.prog X.w) X.A X.env X.xe)(hc:X.calm=true)(hi:PI X tg iter wi)(hg:PG X tg g)(hb:PSs X body tb)
  (hs:autoParam (∀x,foldedSetIterable iter X.env x=pure x) L2.aIrf._auto_1):PS X (.For tg iter body [] pos) (tFor wi g tb):=by
 intro pins s σ H D I h
 refine wpAny_For (thn (hi pins s σ H _ I h) fun v s1 h1=>thn h1 fun itv s2 h2=>?_) hs
 obtain⟨it,fp,tn,J,H2,e,I2,T,st2,f2,W,⟨m0,w0⟩,turn⟩:=h2
 subst e
 -- what stays true of the iterator's objects through the loop
 have stat:∀{H':Hp},(∀b∈fp,H' b=none)->∀b∈fp,FpOk X pins H' b:=fun hn b hb=>⟨hn b hb,(f2 b hb).2⟩
 refine codeAny_forLoop_any (fun n s'=>∃i σ' H',Inv X pins σ' H' s'/\tn i s'.heap/\(∀b∈fp,H' b=none)/\W i n σ' H') ?_ m0 ⟨0,σ,H2,I2,st2,fun b hb=>(f2 b hb).1,w0⟩
 rintro n s3 ⟨i,σ3,H3,I3,st3,fr3,w3⟩
 rcases turn i n σ3 H3 w3 with⟨stop,qn⟩ | ⟨go,N,hN,step⟩
 .refine wpAny_passesOwn hp (thn (T.done X rfl rfl rfl hc i pins s3 σ3 H3 X.xe I3 (stat fr3) st3 stop) fun r s4 hqP=>?_)
  obtain⟨hr,I4⟩:=hqP
  subst hr
  exact wpAny_execs_nil ⟨σ3,H3,I4,qn⟩
 .refine wpAny_passesOwn hp (thn (T.item X rfl rfl rfl hc i pins s3 σ3 H3 X.xe I3 (stat fr3) st3 go) fun r s4 hqP=>?_)
  obtain⟨u,hr,h4⟩:=hqP
  subst hr
  refine wpAny_passesOwn hp (thn h4 fun _ s5 hqP=>?_)
  obtain⟨x,H5,I5,r5,y5,st5,fr5⟩:=hqP
  have I5':=I5.pinned (stat fr5) (T.obj _ _ st5)
  refine wpAny_passesOwn hp (thn (hg _ s5 σ3 H5 x u _ I5' r5 (step x H5 y5)) fun _ s6 hqP=>?_)
  obtain⟨σ6,H6,I6,q6⟩:=hqP
  refine wpAny_passesOwn hp (thn (hb _ s6 σ6 H6 _ I6 q6) fun f s7 q7=>?_)
  have again:∀{σ7:St} {H7:Hp},Inv X (pins++Qcx fp s5.heap) σ7 H7 s7->N σ7 H7->∃m,m<n/\∃i σ' H',Inv X pins σ' H' s7/\tn i s7.heap/\(∀b∈fp,H' b=none)/\W i m σ' H':=fun{σ7 H7} I7 n7=>by
   obtain⟨m',hm,w7⟩:=hN σ7 H7 n7
   refine⟨m',hm,i+1,σ7,H7,I7.unpinned,T.keep _ _ _ st5 fun b hb o e=>(I7.pin (b,o) (wK _ (wK _ (Kb hb e)))).1,fun b hb=>?_,w7⟩
   obtain⟨o,e,d⟩:=T.obj _ _ st5 b hb
   exact(I7.pin (b,o) (wK _ (wK _ (Kb hb e)))).2.1
  cases f with
  |next=>obtain⟨σ7,H7,I7,n7⟩:=q7;exact again I7 n7
  |cont=>obtain⟨σ7,H7,I7,n7⟩:=q7;exact again I7 n7
  |brk=>obtain⟨σ7,H7,I7,q7⟩:=q7;exact⟨σ7,H7,I7.unpinned,q7⟩
  |ret v=>obtain⟨x7,σ7,H7,I7,r7,q7⟩:=q7;exact⟨x7,σ7,H7,I7.unpinned,r7,q7⟩
end
theorem Ym{K:Fg}{a:Addr}{xs:List V}{g:TG}{tb:TS}{D:Ends}{σ:St}{H:Hp}(Pv:Nat->St->Hp->Prop)(h0:Pv 0 σ H)(hl:∀i σ H,i<=xs.length->Pv i σ H->SqL K H a xs)
  (hs:∀i x σ H,xs[i]?=some x->Pv i σ H->g x σ H fun σ2 H2=>tb { D with nx:=Pv (i+1),ct:=Pv (i+1),bk:=D.nx } σ2 H2) (hd:∀σ H,Pv xs.length σ H->D.nx σ H) :
  ∃W:Nat->Nat->St->Hp->Prop,(∃m,W 0 m σ H)/\∀i m σ H,W i m σ H ->
   ((Itl K a).stop i H/\D.nx σ H)\/((Itl K a).go i H/\∃N:St->Hp->Prop,(∀σ' H',N σ' H'->∃m',m'<m/\W (i+1) m' σ' H')/\∀x H',(Itl K a).yld i H x H'->g x σ H' fun σ2 H2=>tb { D with nx:=N,ct:=N,bk:=D.nx } σ2 H2):=by
 refine⟨fun i m σ H=>m=xs.length-i/\i<=xs.length/\Pv i σ H,⟨xs.length,by simp,jQc _,h0⟩,?_⟩
 rintro i m σ H ⟨rfl,hi,p⟩
 have q:=hl i σ H hi p
 by_cases hlt:i<xs.length
 .refine .inr ⟨⟨xs,xs[i],q,by simp[hlt]⟩,Pv (i+1),fun σ' H' p'=>⟨xs.length-(i+1),Om,rfl,hlt,p'⟩,fun x H' y=>?_⟩
  obtain⟨e,y⟩:=y
  subst e
  exact hs i x σ _ (y xs q) p
 .have e:i=xs.length:=Om
  subst e
  exact .inl ⟨⟨xs,q,jY _⟩,hd σ H p⟩
theorem Qrf{K:Fg}{a:Addr}{xs:List V}{g:TG}{tb:TS}{D:Ends}{σ:St}{H:Hp}(Pv:Nat->St->Hp->Prop)(h0:Pv 0 σ H)(hl:∀i σ H,i<=xs.length->Pv i σ H->SqT K H a xs)
  (hs:∀i x σ H,xs[i]?=some x->Pv i σ H->g x σ H fun σ2 H2=>tb { D with nx:=Pv (i+1),ct:=Pv (i+1),bk:=D.nx } σ2 H2) (hd:∀σ H,Pv xs.length σ H->D.nx σ H) :
  ∃W:Nat->Nat->St->Hp->Prop,(∃m,W 0 m σ H)/\∀i m σ H,W i m σ H ->
   ((Itt K a).stop i H/\D.nx σ H)\/((Itt K a).go i H/\∃N:St->Hp->Prop,(∀σ' H',N σ' H'->∃m',m'<m/\W (i+1) m' σ' H')/\∀x H',(Itt K a).yld i H x H'->g x σ H' fun σ2 H2=>tb { D with nx:=N,ct:=N,bk:=D.nx } σ2 H2):=by
 refine⟨fun i m σ H=>m=xs.length-i/\i<=xs.length/\Pv i σ H,⟨xs.length,by simp,jQc _,h0⟩,?_⟩
 rintro i m σ H ⟨rfl,hi,p⟩
 have q:=hl i σ H hi p
 by_cases hlt:i<xs.length
 .refine .inr ⟨⟨xs,xs[i],q,by simp[hlt]⟩,Pv (i+1),fun σ' H' p'=>⟨xs.length-(i+1),Om,rfl,hlt,p'⟩,fun x H' y=>?_⟩
  obtain⟨e,y⟩:=y
  subst e
  exact hs i x σ _ (y xs q) p
 .have e:i=xs.length:=Om
  subst e
  exact .inl ⟨⟨xs,q,jY _⟩,hd σ H p⟩
theorem Jk{lo:Int}{n:Nat}{g:TG}{tb:TS}{D:Ends}{σ:St}{H:Hp}(Pv:Nat->St->Hp->Prop)(h0:Pv 0 σ H)
  (hs:∀i σ H,i<n->Pv i σ H->g (.int (lo+i)) σ H fun σ2 H2=>tb { D with nx:=Pv (i+1),ct:=Pv (i+1),bk:=D.nx } σ2 H2) (hd:∀σ H,Pv n σ H->D.nx σ H) :
  ∃W:Nat->Nat->St->Hp->Prop,(∃m,W 0 m σ H)/\∀i m σ H,W i m σ H ->
   ((Itr lo n).stop i H/\D.nx σ H)\/((Itr lo n).go i H/\∃N:St->Hp->Prop,(∀σ' H',N σ' H'->∃m',m'<m/\W (i+1) m' σ' H')/\∀x H',(Itr lo n).yld i H x H'->g x σ H' fun σ2 H2=>tb { D with nx:=N,ct:=N,bk:=D.nx } σ2 H2):=by
 refine⟨fun i m σ H=>m=n-i/\i<=n/\Pv i σ H,⟨n,by simp,jQc _,h0⟩,?_⟩
 rintro i m σ H ⟨rfl,hi,p⟩
 by_cases hlt:i<n
 .refine .inr ⟨hlt,Pv (i+1),fun σ' H' p'=>⟨n-(i+1),Om,rfl,hlt,p'⟩,fun x H' y=>?_⟩
  obtain⟨e,y⟩:=y
  subst e y
  exact hs i σ _ hlt p
 .have e:i=n:=Om
  subst e
  exact .inl ⟨jY _,hd σ H p⟩
theorem Qmv{c:TT}{tb:TS}{D:Ends}{σ:St}{H:Hp}(Pv:St->Hp->Prop)(μ:St->Hp->Nat)(h0:Pv σ H)
  (hs:∀σ H,Pv σ H->c σ H fun b H1=>if b=true then tb { D with nx:=fun σ' H'=>Pv σ' H'/\μ σ' H'<μ σ H,ct:=fun σ' H'=>Pv σ' H'/\μ σ' H'<μ σ H,bk:=D.nx } σ H1 else D.nx σ H1)
  (mono:∀σ H Q Q',(∀b H1,Q b H1->Q' b H1)->c σ H Q->c σ H Q'):Qpo c tb D σ H:=by
 refine⟨fun m σ H=>m=μ σ H/\Pv σ H,⟨_,rfl,h0⟩,?_⟩
 rintro m σ H ⟨rfl,p⟩
 refine mono σ H _ _ (fun b H1 q=>?_) (hs σ H p)
 cases b with
 |true=>exact⟨_,fun σ' H' ⟨p',l⟩=>⟨_,l,rfl,p'⟩,q⟩
 |false=>exact q
abbrev R2:=V->V->Hp->VK->Prop
def OpR(X:Cx)(f:Value->Value->Sem Value)(r:R2):Prop :=
 ∀(pins:List (Addr×Obj)) (s:Shared) (σ:St) (H:Hp) (x y:V) (v u:Value) (Q:VK),Inv X pins σ H s->RelV x v->RelV y u->r x y H Q ->
  wpAny (model X.prog X.w) X.A (f v u) (EP X pins σ Q) X.xe s
def UnR(X:Cx)(f:Value->Sem Value)(r:V->Hp->VK->Prop):Prop :=
 ∀(pins:List (Addr×Obj)) (s:Shared) (σ:St) (H:Hp) (x:V) (v:Value) (Q:VK),Inv X pins σ H s->RelV x v->r x H Q ->
  wpAny (model X.prog X.w) X.A (f v) (EP X pins σ Q) X.xe s
def Zv(X:Cx)(f:Value)(r:List V->Hp->VK->Prop):Prop :=
 ∀(pins:List (Addr×Obj)) (s:Shared) (σ:St) (H:Hp) (xs:List V) (us:List Value) (Q:VK),Inv X pins σ H s->Vals xs us->r xs H Q ->
  wpAny (model X.prog X.w) X.A (call f us) (EP X pins σ Q) X.xe s
def tOp(r:R2)(ta tb:TE):TE:=fun σ H Q=>ta σ H fun x H1=>tb σ H1 fun y H2=>r x y H2 Q
def tUn(r:V->Hp->VK->Prop)(ta:TE):TE:=fun σ H Q=>ta σ H fun x H1=>r x H1 Q
inductive rI(C:Int->Int->Prop)(g:Int->Int->V)(x y:V)(H:Hp)(Q:VK):Prop|mk(i j:Int)(a:x=.int i)(b:y=.int j)(c:C i j)(q:Q (g i j) H):rI C g x y H Q
inductive rI0(g:Int->Int->V)(x y:V)(H:Hp)(Q:VK):Prop|mk(i j:Int)(a:x=.int i)(b:y=.int j)(q:Q (g i j) H):rI0 g x y H Q
def rU(g:Int->V):V->Hp->VK->Prop:=fun x H Q=>∃i,x=.int i/\Q (g i) H
section
variable{X:Cx}{a b:Expr}{ta tb:TE}{pos:Pos}
theorem binT(ha:PE X a ta)(hb:PE X b tb){pins:List (Addr×Obj)}{s:Shared}{σ:St}{H:Hp}{R:V->V->Hp->Prop}(I:Inv X pins σ H s)
  (h:ta σ H fun x H1=>tb σ H1 fun y H2=>R x y H2) {Q:Value->Shared->Prop} {f:Value->Value->Sem Value}
  (hf:∀v u s2 x y H2,Inv X pins σ H2 s2->RelV x v->RelV y u->R x y H2->wpAny (model X.prog X.w) X.A (f v u) Q X.xe s2) :
  wpAny (model X.prog X.w) X.A (eval a X.env) (fun v s₁=>wpAny (model X.prog X.w) X.A (eval b X.env) (fun u s₂=>wpAny (model X.prog X.w) X.A (f v u) Q X.xe s₂) X.xe s₁) X.xe s:=by
 refine thn (ha pins s σ H _ I h) fun v s1 hqP=>?_
 obtain⟨x,H1,I1,r1,q1⟩:=hqP
 refine thn (hb pins s1 σ H1 _ I1 q1) fun u s2 hqP=>?_
 obtain⟨y,H2,I2,r2,q2⟩:=hqP
 exact hf v u s2 x y H2 I2 r1 r2 q2
theorem Qn{op:Operator}{r:R2}(ho:OpR X (binaryOp op) r)(ha:PE X a ta)(hb:PE X b tb):PE X (.BinOp a op b pos) (tOp r ta tb):=by
 intro pins s σ H Q I h
 exact wpAny_BinOp (binT ha hb I h fun v u s2 x y H2 I2 rx ry q=>ho pins s2 σ H2 x y v u Q I2 rx ry q)
theorem Ze{op:UnaryOp}{r:V->Hp->VK->Prop}(ho:UnR X (unaryOp op) r)(ha:PE X a ta):PE X (.UnaryOp op a pos) (tUn r ta):=by
 intro pins s σ H Q I h
 exact UnaryOp_ (thn (ha pins s σ H _ I h) fun v s1 ⟨x,H1,I1,r1,q1⟩=>ho pins s1 σ H1 x v Q I1 r1 q1)
theorem opI{f:Value->Value->Sem Value}{C:Int->Int->Prop}{g:Int->Int->Int}
  (rule:∀(i j:Int) (t u:Tok) (s:Shared) (Q:Value->Shared->Prop) (E:Value->Shared->Prop),C i j->Q (.int (g i j) s.toks) { s with toks:=s.toks+1 }->wpAny (model X.prog X.w) X.A (f (.int i t) (.int j u)) Q E s) :
  OpR X f (rI C fun i j=>.int (g i j)):=by
 intro pins s σ H x y v u Q I rx ry h
 obtain⟨i,j,rfl,rfl,hc,q⟩:=h
 obtain⟨t,rfl⟩:=rx
 obtain⟨t',rfl⟩:=ry
 exact rule i j t t' s _ _ hc ⟨.int (g i j),H,I.tok _,⟨_,rfl⟩,q⟩
theorem opI0{f:Value->Value->Sem Value}{g:Int->Int->Int}
  (rule:∀(i j:Int) (t u:Tok) (s:Shared) (Q:Value->Shared->Prop) (E:Value->Shared->Prop),Q (.int (g i j) s.toks) { s with toks:=s.toks+1 }->wpAny (model X.prog X.w) X.A (f (.int i t) (.int j u)) Q E s) :
  OpR X f (rI0 fun i j=>.int (g i j)):=by
 intro pins s σ H x y v u Q I rx ry h
 obtain⟨i,j,rfl,rfl,q⟩:=h
 obtain⟨t,rfl⟩:=rx
 obtain⟨t',rfl⟩:=ry
 exact rule i j t t' s _ _ ⟨.int (g i j),H,I.tok _,⟨_,rfl⟩,q⟩
theorem opB0{f:Value->Value->Sem Value}{g:Int->Int->Bool}
  (rule:∀(i j:Int) (t u:Tok) (s:Shared) (Q:Value->Shared->Prop) (E:Value->Shared->Prop),Q (.bool (g i j)) s->wpAny (model X.prog X.w) X.A (f (.int i t) (.int j u)) Q E s) :
  OpR X f (rI0 fun i j=>.bl (g i j)):=by
 intro pins s σ H x y v u Q I rx ry h
 obtain⟨i,j,rfl,rfl,q⟩:=h
 obtain⟨t,rfl⟩:=rx
 obtain⟨t',rfl⟩:=ry
 exact rule i j t t' s _ _ ⟨.bl (g i j),H,I,rfl,q⟩
def CDiv(i j:Int):Prop:=0<j/\j<1073741824
def CPow(i j:Int):Prop:=0<=j/\j<=1000000/\i.natAbs<2 ^ 64
def CMul(i j:Int):Prop:=(-(2 ^ 64)<i/\i<2 ^ 64)\/(-(2 ^ 64)<j/\j<2 ^ 64)
theorem CMul.ok{i j:Int}(h:CMul i j):IntMulOk i j:=by
 rcases h with⟨h1,h2⟩ | ⟨h1,h2⟩
 .exact .of_left (intBits_le_64 h1 h2)
 .exact .of_right (intBits_le_64 h1 h2)
theorem Yi:OpR X (binaryOp .Add) (rI0 fun i j=>.int (i+j)):=opI0 fun _ _ _ _ _ _ _ q=>add_int q
theorem Xs:OpR X (binaryOp .Sub) (rI0 fun i j=>.int (i-j)):=opI0 fun _ _ _ _ _ _ _ q=>sub_int q
theorem Xu:OpR X (binaryOp .Mult) (rI CMul fun i j=>.int (i*j)):=opI fun _ _ _ _ _ _ _ hc q=>mul_int q hc.ok
theorem Zj:OpR X (binaryOp .FloorDiv) (rI CDiv fun i j=>.int (i / j)):=opI fun i j _ _ _ _ _ hc q=>by
 have h1:(0:Int)<j:=hc.1
 have h2:j<1073741824:=hc.2
 exact floordiv_int Om (by rw[Int.fdiv_eq_ediv_of_nonneg i Om];exact q) (.inl (PyProof.noPylong_small Om))
theorem Zd:OpR X (binaryOp .Mod) (rI (fun _ j=>0<j) fun i j=>.int (i % j)):=opI fun i j _ _ _ _ _ hc q=>by
 have h1:(0:Int)<j:=hc
 exact mod_int' Om (by rw[Int.fmod_eq_emod_of_nonneg i Om];exact q)
theorem Wj:OpR X (binaryOp .Pow) (rI CPow fun i j=>.int (i ^ j.toNat)):=opI fun _ _ _ _ _ _ _ hc q=>pow_int_small hc.1 hc.2.1 hc.2.2 q
theorem unI{f:Value->Sem Value}{g:Int->Int}
  (rule:∀(i:Int) (t:Tok) (s:Shared) (Q:Value->Shared->Prop) (E:Value->Shared->Prop),Q (.int (g i) s.toks) { s with toks:=s.toks+1 }->wpAny (model X.prog X.w) X.A (f (.int i t)) Q E s) :
  UnR X f (rU fun i=>.int (g i)):=by
 intro pins s σ H x v Q I rx h
 obtain⟨i,rfl,q⟩:=h
 obtain⟨t,rfl⟩:=rx
 exact rule i t s _ _ ⟨.int (g i),H,I.tok _,⟨_,rfl⟩,q⟩
theorem Ya:UnR X (unaryOp .USub) (rU fun i=>.int (-i)):=unI fun _ _ _ _ _ q=>neg_int q
end
def scal:V->V->Bool
 |.non,.non=>true | .non,.int _=>true | .int _,.non=>true | .non,.bl _=>true | .bl _,.non=>true | .non,.str _=>true | .str _,.non=>true
 |.int _,.int _=>true | .bl _,.bl _=>true | .str _,.str _=>true | .byt _,.byt _=>true
 |.int _,.str _=>true | .str _,.int _=>true | .bl _,.str _=>true | .str _,.bl _=>true
 |_,_=>false
def rEq:R2:=fun x y H Q=>scal x y=true/\Q (.bl (decide (x=y))) H
def rNe:R2:=fun x y H Q=>scal x y=true/\Q (.bl (!decide (x=y))) H
theorem Qiz{i j:Int}:decide (V.int i=V.int j)=(i == j):=by
 rw[kQa]
 simp
theorem Qpp{i j:Bool}:decide (V.bl i=V.bl j)=(i == j):=by
 rw[kQa]
 simp
theorem Qja{i j:Str}:decide (V.str i=V.str j)=(i == j):=by
 rw[kQa]
 simp
theorem Qjb{i j:Array UInt8}:decide (V.byt i=V.byt j)=(i.toList == j.toList):=by
 rw[kQa]
 cases i
 cases j
 simp
section
variable{X:Cx}{a b c:Expr}{ta tb:TE}{pos:Pos}
theorem Xx{pins:List (Addr×Obj)}{σ:St}{H:Hp}{s:Shared}{Q:VK}{k k':Bool}(I:Inv X pins σ H s)(q:Q (.bl k) H)(e:k=k'):EP X pins σ Q (.bool k') s:=by
 subst e
 exact⟨.bl k,H,I,rfl,q⟩
theorem Zf:OpR X (compareOp .Eq) rEq:=by
 intro pins s σ H x y v u Q I rx ry h
 obtain⟨hs,q⟩:=h
 cases x with
 |non=>
  cases rx
  cases y with
  |non=>cases ry;exact PySem.EqNone.eq_none_none (Xx I q (by simp))
  |bl j=>cases ry;exact PySem.EqNone.eq_none_bool (Xx I q (by simp))
  |int j=>obtain⟨t',rfl⟩:=ry;exact PySem.EqNone.eq_none_int (Xx I q (by simp))
  |str j=>obtain⟨t',rfl⟩:=ry;exact PySem.EqNone.eq_none_str (Xx I q (by simp))
  |_=>exact absurd (show false=true from hs) zW
 |bl i=>
  cases rx
  cases y with
  |non=>cases ry;exact PySem.EqNone.eq_bool_none (Xx I q (by simp))
  |bl j=>cases ry;exact eq_bool (Xx I q Qpp)
  |str j=>obtain⟨t',rfl⟩:=ry;exact PySem.EqMixed.eq_bool_str (Xx I q (by simp))
  |_=>exact absurd (show false=true from hs) zW
 |int i=>
  obtain⟨t,rfl⟩:=rx
  cases y with
  |non=>cases ry;exact PySem.EqNone.eq_int_none (Xx I q (by simp))
  |int j=>obtain⟨t',rfl⟩:=ry;exact eq_int (Xx I q Qiz)
  |str j=>obtain⟨t',rfl⟩:=ry;exact PySem.EqMixed.eq_int_str (Xx I q (by simp))
  |_=>exact absurd (show false=true from hs) zW
 |str i=>
  obtain⟨t,rfl⟩:=rx
  cases y with
  |non=>cases ry;exact PySem.EqNone.eq_str_none (Xx I q (by simp))
  |bl j=>cases ry;exact PySem.EqMixed.eq_str_bool (Xx I q (by simp))
  |int j=>obtain⟨t',rfl⟩:=ry;exact PySem.EqMixed.eq_str_int (Xx I q (by simp))
  |str j=>obtain⟨t',rfl⟩:=ry;exact eq_str (Xx I q Qja)
  |_=>exact absurd (show false=true from hs) zW
 |byt i=>
  obtain⟨t,rfl⟩:=rx
  cases y with
  |byt j=>obtain⟨t',rfl⟩:=ry;exact PySem.W.eq_bytes (Xx I q Qjb)
  |_=>exact absurd (show false=true from hs) zW
 |_=>cases y<;>exact absurd (show false=true from hs) zW
theorem Qha:OpR X (compareOp .NotEq) rNe:=by
 intro pins s σ H x y v u Q I rx ry h
 obtain⟨hs,q⟩:=h
 cases x with
 |non=>
  cases rx
  cases y with
  |non=>cases ry;exact PySem.EqNone.ne_none_none (Xx I q (by simp))
  |bl j=>cases ry;exact PySem.EqNone.ne_none_bool (Xx I q (by simp))
  |int j=>obtain⟨t',rfl⟩:=ry;exact PySem.EqNone.ne_none_int (Xx I q (by simp))
  |str j=>obtain⟨t',rfl⟩:=ry;exact PySem.EqNone.ne_none_str (Xx I q (by simp))
  |_=>exact absurd (show false=true from hs) zW
 |bl i=>
  cases rx
  cases y with
  |non=>cases ry;exact PySem.EqNone.ne_bool_none (Xx I q (by simp))
  |bl j=>cases ry;exact ne_bool (Xx I q (congrArg not Qpp))
  |str j=>obtain⟨t',rfl⟩:=ry;exact PySem.EqMixed.ne_bool_str (Xx I q (by simp))
  |_=>exact absurd (show false=true from hs) zW
 |int i=>
  obtain⟨t,rfl⟩:=rx
  cases y with
  |non=>cases ry;exact PySem.EqNone.ne_int_none (Xx I q (by simp))
  |int j=>obtain⟨t',rfl⟩:=ry;exact ne_int (Xx I q (congrArg not Qiz))
  |str j=>obtain⟨t',rfl⟩:=ry;exact PySem.EqMixed.ne_int_str (Xx I q (by simp))
  |_=>exact absurd (show false=true from hs) zW
 |str i=>
  obtain⟨t,rfl⟩:=rx
  cases y with
  |non=>cases ry;exact PySem.EqNone.ne_str_none (Xx I q (by simp))
  |bl j=>cases ry;exact PySem.EqMixed.ne_str_bool (Xx I q (by simp))
  |int j=>obtain⟨t',rfl⟩:=ry;exact PySem.EqMixed.ne_str_int (Xx I q (by simp))
  |str j=>obtain⟨t',rfl⟩:=ry;exact ne_str (Xx I q (congrArg not Qja))
  |_=>exact absurd (show false=true from hs) zW
 |byt i=>
  obtain⟨t,rfl⟩:=rx
  cases y with
  |byt j=>obtain⟨t',rfl⟩:=ry;exact PySem.W.ne_bytes (Xx I q (congrArg not Qjb))
  |_=>exact absurd (show false=true from hs) zW
 |_=>cases y<;>exact absurd (show false=true from hs) zW
theorem Jo:OpR X (compareOp .Lt) (rI0 fun i j=>.bl (decide (i<j))):=opB0 fun _ _ _ _ _ _ _ q=>lt_int q
theorem Qrg:OpR X (compareOp .LtE) (rI0 fun i j=>.bl (decide (i<=j))):=opB0 fun _ _ _ _ _ _ _ q=>le_int q
theorem Wk:OpR X (compareOp .Gt) (rI0 fun i j=>.bl (decide (j<i))):=opB0 fun _ _ _ _ _ _ _ q=>gt_int q
theorem Qhb:OpR X (compareOp .GtE) (rI0 fun i j=>.bl (decide (j<=i))):=opB0 fun _ _ _ _ _ _ _ q=>ge_int q
theorem Wl:OpR X (compareOp .Is) (fun x y H Q=>y=.non/\Q (.bl (decide (x=.non))) H):=by
 intro pins s σ H x y v u Q I rx ry h
 obtain⟨rfl,q⟩:=h
 cases ry
 refine is_none_gen (Xx I q ?_)
 cases x<;>first
  |(cases rx;rfl)
  |(obtain⟨t,rfl⟩:=rx;rfl)
theorem Wm:OpR X (compareOp .IsNot) (fun x y H Q=>y=.non/\Q (.bl (!decide (x=.non))) H):=by
 intro pins s σ H x y v u Q I rx ry h
 obtain⟨rfl,q⟩:=h
 cases ry
 refine isnot_none_gen (Xx I q ?_)
 cases x<;>first
  |(cases rx;rfl)
  |(obtain⟨t,rfl⟩:=rx;rfl)
theorem Qt(b:Expr){op:CmpOp}(h:autoParam (op≠.In) L2.aDec._auto_1)(h2:autoParam (op≠.NotIn) L2.aDec._auto_1):behindInMarks op b=false:=by
 have e1:(op == CmpOp.In)=false:=by cases op<;>first | rfl | exact absurd rfl h
 have e2:(op == CmpOp.NotIn)=false:=by cases op<;>first | rfl | exact absurd rfl h2
 cases b<;>simp[behindInMarks,e1,e2]
theorem Yj{op:CmpOp}{r:R2}(ho:OpR X (compareOp op) r)(ha:PE X a ta)(hb:PE X b tb)(hm:behindInMarks op b=false):PE X (.Compare a [op] [b] pos) (tOp r ta tb):=by
 intro pins s σ H Q I h
 exact wpAny_Compare1 (binT ha hb I h fun v u s2 x y H2 I2 rx ry q=>ho pins s2 σ H2 x y v u Q I2 rx ry q) hm
inductive tTk(Q:Bool->Hp->Prop)(x:V)(H:Hp):Prop|mk(k:Bool)(h:x=.bl k)(q:Q k H):tTk Q x H
def tTest(t:TE):TT:=fun σ H Q=>t σ H (tTk Q)
theorem Qr{op:CmpOp}{r:R2}(ho:OpR X (compareOp op) r)(ha:PE X a ta)(hb:PE X b tb)(hm:behindInMarks op b=false):PT X (.Compare a [op] [b] pos) (tTest (tOp r ta tb)):=by
 intro pins s σ H Q I h
 refine wpAny_isTrue_Compare1 (thn (ha pins s σ H _ I h) fun v s1 ⟨x,H1,I1,r1,q1⟩=>thn (hb pins s1 σ H1 _ I1 q1) fun u s2 ⟨y,H2,I2,r2,q2⟩=>
  thn (ho pins s2 σ H2 x y v u _ I2 r1 r2 q2) fun c s3 ⟨z,H3,I3,r3,k,e,q3⟩=>?_) hm
 subst e
 cases r3
 exact wpAny_truthy_bool ⟨H3,I3,q3⟩
theorem Qcy:(sizeLine:Nat)<2 ^ 63:=by rw[sizeLine_eq];decide
theorem vals1{x:V}{us:List Value}(r:Vals [x] us):∃u,us=[u]/\RelV x u:=by
 cases r with
 |cons r1 r2=>cases r2;exact⟨_,rfl,r1⟩
theorem vals2{x y:V}{us:List Value}(r:Vals [x,y] us):∃u w',us=[u,w']/\RelV x u/\RelV y w':=by
 cases r with
 |cons r1 r2=>
  cases r2 with
  |cons r3 r4=>cases r4;exact⟨_,_,rfl,r1,r3⟩
theorem Zl:Zv X (.builtin "abs") (fun xs H Q=>∃i,xs=[.int i]/\Q (.int (if i<0 then -i else i)) H):=by
 intro pins s σ H xs us Q I r h
 obtain⟨i,rfl,q⟩:=h
 obtain⟨u,rfl,t,rfl⟩:=vals1 r
 exact call_abs_int fun u tk=>⟨.int (if i<0 then -i else i),H,I.tok _,⟨_,rfl⟩,q⟩
theorem Kw(hc:X.calm=true):Zv X (.builtin "max") (fun xs H Q=>∃i j,xs=[.int i,.int j]/\Q (.int (if j > i then j else i)) H):=by
 intro pins s σ H xs us Q I r h
 obtain⟨i,j,rfl,q⟩:=h
 obtain⟨u,w',rfl,⟨t,rfl⟩,⟨t',rfl⟩⟩:=vals2 r
 refine max_two_ints (I.ok.hd hc) fun h' tk k=>⟨_,H,I.kept k,?_,q⟩
 by_cases hj:j > i
 .rw[if_pos hj,if_pos hj];exact⟨_,rfl⟩
 .rw[if_neg hj,if_neg hj];exact⟨_,rfl⟩
theorem Qjc(hc:X.calm=true):Zv X (.builtin "min") (fun xs H Q=>∃i j,xs=[.int i,.int j]/\Q (.int (if j<i then j else i)) H):=by
 intro pins s σ H xs us Q I r h
 obtain⟨i,j,rfl,q⟩:=h
 obtain⟨u,w',rfl,⟨t,rfl⟩,⟨t',rfl⟩⟩:=vals2 r
 refine min_two_ints (I.ok.hd hc) fun h' tk k=>⟨_,H,I.kept k,?_,q⟩
 by_cases hj:j<i
 .rw[if_pos hj,if_pos hj];exact⟨_,rfl⟩
 .rw[if_neg hj,if_neg hj];exact⟨_,rfl⟩
theorem Qcz:Zv X (.type "int") (fun xs H Q=>(∃i,xs=[.int i]/\Q (.int i) H)\/∃k,xs=[.bl k]/\Q (.int (if k then 1 else 0)) H):=by
 intro pins s σ H xs us Q I r h
 rcases h with⟨i,rfl,q⟩ | ⟨k,rfl,q⟩
 .obtain⟨u,rfl,t,rfl⟩:=vals1 r
  exact call_int_int ⟨.int i,H,I,⟨_,rfl⟩,q⟩
 .obtain⟨u,rfl,r1⟩:=vals1 r
  cases r1
  exact call_int_bool ⟨.int (if k then 1 else 0),H,I.tok _,⟨_,rfl⟩,q⟩
end
structure ObjM(h:Heap)(x dx C:Addr)(mA:Str->Option Value):Prop where
 obj:h.get? x=some (PySem.W.instObj C dx)
 ns:h.Ns1 dx mA
 ne:dx≠x
theorem Qjd{h:Heap}{dx:Addr}{mA:Str->Option Value}(n:h.Ns1 dx mA):∃od,h.get? dx=some od/\∀name,PySem.W.lookIn name od=some (mA name):=by
 obtain⟨o,es,ep,ho,hd,hk,_,hm⟩:=n
 refine⟨o,ho,fun name=>?_⟩
 have e:=hm name
 unfold nsFind findBy at e
 rw[<-Array.find?_toList]at e
 unfold PySem.W.lookIn
 rw[hd]
 dsimp only
 split
 .rename_i y q
  rw[q]at e
  exact congrArg some e
 .rename_i q
  rw[q]at e
  have a:es.toList.any (·.refKey)=false:=by
   rw[List.any_eq_false]
   intro y hy
   obtain⟨z,t,hkey⟩:=hk y (Array.mem_toList_iff.mp hy)
   simp[DictEntry.refKey,hkey]
  have a':¬es.toList.any (·.refKey)=true:=by rw[a];exact zW
  rw[if_neg a']
  exact congrArg some e
theorem ObjM.look{h:Heap}{x dx C:Addr}{mA:Str->Option Value}(I:ObjM h x dx C mA):∃od,PySem.W.InstAt h x (PySem.W.instObj C dx) C (some od)/\∀name,PySem.W.lookIn name od=some (mA name) :=
 let ⟨od,ho,hl⟩:=Qjd I.ns
 ⟨od,⟨I.obj,rfl,rfl,ho⟩,hl⟩
section
variable{prog:Program}{w:World}{A:Around}{E:Value->Shared->Prop}{s:Shared}{K:Fg}{x dx C f:Addr}{mA:Str->Option Value}{name:Str}{v:Value}
theorem get_map{expr:Bool}{Q:Value->Shared->Prop}(X:K.In s.heap)(I:ObjM s.heap x dx C mA)(hg:PySem.W.plainGet K C name=true)(hh:PySem.W.hasDictIn K C=true)
  (ha:PySem.W.findIn K (.ref C) name=some none) (hv:mA name=some v) (hv':PySem.W.handedIn v=true) (h:Q v { s with toks:=s.toks+1 }) :
  wpAny (model prog w) A (getAttr (.ref x) name expr) Q E s:=by
 obtain⟨od,J,hl⟩:=I.look
 exact PySem.W.get_value X J (PySem.W.plainGet_of hg).1 (PySem.W.findObj_own hh ha rfl (by rw[hl,hv])) hv' h
theorem Qmw{pl:Sem Bool}{Q:Value×List Value->Shared->Prop}(X:K.In s.heap)(I:ObjM s.heap x dx C mA)(hg:PySem.W.plainGet K C name=true)
  (hf:PySem.W.findIn K (.ref C) name=some (some (.ref f))) (ht:PySem.W.isFn K (.ref f)=true) (hv:mA name=none) (h:Q (.ref f,[.ref x]) s) :
  wpAny (model prog w) A (getMethod (.ref x) name pl) Q E s:=by
 obtain⟨od,J,hl⟩:=I.look
 exact PySem.W.method_fn X J (PySem.W.plainGet_of hg).1 (PySem.W.plainGet_of hg).2 hf (beq_iff_eq.mp ht) (by show(PySem.W.lookIn name od).map (·.isSome)=some false;rw[hl,hv];rfl) h
theorem set_map{ns:List Str}{Q:Unit->Shared->Prop}(X:K.In s.heap)(I:ObjM s.heap x dx C mA)
  (hs:PySem.W.findIn K (.ref C) "__setattr__"=some (some (.builtin "object.__setattr__"))) (hp:PySem.W.plainOver K C=true) (ht:PySem.W.takerIn K C name=some none) (hh:PySem.W.hasDictIn K C=true)
  (hw:PySem.Within mA ns) (hsz:ns.length<=sizeLine)
  (h:∀h',ObjM h' x dx C (fun y=>if y=name then some v else mA y)->Heap.SameBut dx s.heap h'->Q () { s with heap:=h',toks:=s.toks+2 }) :
  wpAny (model prog w) A (setAttr (.ref x) name v) Q E s:=by
 obtain⟨od,J,hl⟩:=I.look
 refine PySem.W.set_plain X J hs (PySem.W.osa_open (s:={ s with toks:=s.toks+1 }) (r:=none) X J hp ht fun b=>?_)
 obtain⟨cd,hc,hd'⟩:=PySem.W.any_some hh
 have hx:s.heap.get? x=some ⟨.ref C,some dx,.plain,#[]⟩:=I.obj
 refine jX (zX (jX (jX (wpAny_loadPart hx (jX (PySem.W.Looks.here (s:={ s with toks:=s.toks+1 }) (PySem.W.looks_clsIn X hc) ?_))))))
 rw[hd']
 refine zX (a:=some dx) (jX (zX (jX ?_)))
 refine wpAny_nsSet1 (s:={ s with toks:=s.toks+1 }) I.ns fun h' hn2 hs2=>?_
 obtain⟨oD,esD,epD,hoD,hdD,hcD⟩:=hn2.count (PySem.Within.cons name v hw)
 refine jX (wpAny_lookBehind hoD (by rw[hdD];exact pastItsLine_dict (jQb hcD (by rw[xQ];lia))) ?_)
 exact zX (h _ ⟨(hs2.2 _ (Ne.symm I.ne)).trans I.obj,hn2,I.ne⟩ hs2)
theorem Qmx{R:Result->Shared->Prop}{vs:List Value}{kw:List (Str×Value)}(X:K.In s.heap)(hm:PySem.W.makesIn K C=true)
  (hi:PySem.W.findIn K (.ref C) "__init__"=some (some (.ref f))) (hf:PySem.W.typeIn K (.ref f)=some (.type "function"))
  (h:codeAny (model prog w) (A.under (.builtin "type.__call__" ⟨.ref C::vs,kw⟩)) (.call (.ref f) ⟨.ref (s.heap.objs.size+1)::vs,kw⟩) (PySem.W.InitBack (s.heap.objs.size+1) R)
   { s with heap:=(s.heap.push PySem.W.emptyDict).push (PySem.W.instObj C s.heap.objs.size) }) :
  codeAny (model prog w) A (.call (.ref C) ⟨vs,kw⟩) R s:=by
 obtain⟨hh,g,d,t,os⟩:=s
 exact PySem.W.make_core (PySem.W.makes_of X hm) (PySem.W.looks_findIn X hi) (fun self=>PySem.W.bind_fn X self hf) (.inl rfl) h
end
def putF(f:Str)(v:V):List (Str×V)->List (Str×V)
 |[]=>[(f,v)]
 |(g,x)::r=>if g=f then(g,v)::r else(g,x)::putF f v r
theorem Xr(f g:Str)(v:V):∀fs:List (Str×V),(putF f v fs).lookup g=if g=f then some v else fs.lookup g
 |[]=>by
  show List.lookup g [(f,v)]=_
  by_cases h:g=f
  .have hb:(g == f)=true:=beq_iff_eq.mpr h
   simp only[List.lookup,hb,if_pos h]
  .have hb:(g == f)=false:=beq_eq_false_iff_ne.mpr h
   simp only[List.lookup,hb,if_neg h]
 |(k,x)::r=>by
  have ih:=Xr f g v r
  rw[show putF f v ((k,x)::r)=(if k=f then(k,v)::r else(k,x)::putF f v r)from rfl]
  by_cases hk:k=f
  .rw[if_pos hk]
   by_cases h:g=k
   .have hb:(g == k)=true:=beq_iff_eq.mpr h
    simp only[List.lookup,hb,if_pos (h.trans hk)]
   .have hb:(g == k)=false:=beq_eq_false_iff_ne.mpr h
    simp only[List.lookup,hb,if_neg (fun e:g=f=>h (e.trans hk.symm))]
  .rw[if_neg hk]
   by_cases h:g=k
   .have hb:(g == k)=true:=beq_iff_eq.mpr h
    simp only[List.lookup,hb,if_neg (fun e:g=f=>hk (h.symm.trans e))]
   .have hb:(g == k)=false:=beq_eq_false_iff_ne.mpr h
    simp only[List.lookup,hb]
    exact ih
theorem Wn(f:Str)(v:V):∀fs:List (Str×V),f∈(putF f v fs).map (·.1)/\∀g,g∈fs.map (·.1)->g∈(putF f v fs).map (·.1)
 |[]=>⟨by simp[putF],fun g h=>by simp at h⟩
 |(k,x)::r=>by
  obtain⟨i1,i2⟩:=Wn f v r
  rw[show putF f v ((k,x)::r)=(if k=f then(k,v)::r else(k,x)::putF f v r)from rfl]
  by_cases hk:k=f
  .rw[if_pos hk]
   subst hk
   exact⟨by simp,fun g h=>by simpa using h⟩
  .rw[if_neg hk]
   refine⟨?_,fun g h=>?_⟩
   .rw[yX]
    exact yZ _ i1
   .rw[yX]at h⊢
    rcases kQ.mp h with e | e
    .exact kQ.mpr (.inl e)
    .exact yZ _ (i2 g e)
theorem Kn(f:Str)(v:V):∀fs:List (Str×V),(putF f v fs).length<=fs.length+1
 |[]=>by simp[putF]
 |(k,x)::r=>by
  have ih:=Kn f v r
  rw[show putF f v ((k,x)::r)=(if k=f then(k,v)::r else(k,x)::putF f v r)from rfl]
  by_cases hk:k=f
  .rw[if_pos hk,xQ,xQ];lia
  .rw[if_neg hk,xQ,xQ];lia
theorem RelO.some_of{v:V}{o:Option Value}(r:RelO (some v) o):∃u,o=some u/\RelV v u:=by
 cases o with
 |none=>exact(show False from r).elim
 |some u=>exact⟨u,rfl,r⟩
theorem RelO.none_of{o:Option Value}(r:RelO none o):o=none:=by
 cases o with
 |none=>rfl
 |some u=>exact(show False from r).elim
theorem Qje{v:V}{u:Value}(r:RelV v u):PySem.W.handedIn u=true:=by
 cases v with
 |non=>cases(show u=Value.none from r);rfl
 |bl b=>cases(show u=Value.bool b from r);rfl
 |int i=>obtain⟨t,e⟩:=(show ∃t,u=Value.int i t from r);cases e;rfl
 |str x=>obtain⟨t,e⟩:=(show ∃t,u=Value.str x t from r);cases e;rfl
 |byt b=>obtain⟨t,e⟩:=(show ∃t,u=Value.bytes b t from r);cases e;rfl
 |flt b=>obtain⟨t,e⟩:=(show ∃t,u=Value.float b t from r);cases e;rfl
 |ref a=>cases(show u=Value.ref a from r);rfl
 |ty n=>cases(show u=Value.type n from r);rfl
section
variable{P:Program}{w:World}{H:Hp}{h:Heap}{a C dx:Addr}{fs:List (Str×V)}
theorem Qem(hok:HOk P w H h)(e:H a=some (.ins C dx fs)):∃mA,ObjM h a dx C mA/\(∀f,RelO (fs.lookup f) (mA f))/\PySem.Within mA (fs.map (·.1))/\fs.length<=1000/\H dx=some (.own a):=by
 obtain⟨d,z,ne,ob,mA,n,r,q⟩:=(show ObjOk P w H h a (.ins C dx fs)from hok a _ e)
 exact⟨mA,⟨ob,n,ne⟩,r,q,z,d⟩
end
structure Cls(K:Fg)(C:Addr):Prop where
 pg:PySem.W.plainGet K C Str.empty=true
 hd:PySem.W.hasDictIn K C=true
 po:PySem.W.plainOver K C=true
 sa:PySem.W.findIn K (.ref C) "__setattr__"=some (some (.builtin "object.__setattr__"))
theorem Cls.get{K:Fg}{C:Addr}(c:Cls K C)(f:Str):PySem.W.plainGet K C f=true:=c.pg
def NoAttr(K:Fg)(C:Addr)(f:Str):Prop:=PySem.W.findIn K (.ref C) f=some none
theorem NoAttr.taker{K:Fg}{C:Addr}{f:Str}(n:NoAttr K C f):PySem.W.takerIn K C f=some none:=by
 unfold PySem.W.takerIn
 rw[show PySem.W.findIn K (.ref C) f=some none from n]
 rfl
structure Meth(K:Fg)(C:Addr)(m:Str)(f:Addr):Prop where
 at_:PySem.W.findIn K (.ref C) m=some (some (.ref f))
 fn:PySem.W.isFn K (.ref f)=true
 kp:PySem.W.keepIn K (.ref f)=true
section
variable{X:Cx}{pins:List (Addr×Obj)}{σ:St}{H:Hp}{s:Shared}{a C dx:Addr}{fs:List (Str×V)}{f:Str}{v:V}{A:Around}{E:Value->Shared->Prop}
theorem Qas{b:Bool}{Q:Value->Shared->Prop}(I:Inv X pins σ H s)(e:H a=some (.ins C dx fs))(c:Cls X.K C)(n:NoAttr X.K C f)(l:fs.lookup f=some v)
  (h:∀u s',Inv X pins σ H s'->RelV v u->Q u s'):wpAny (model X.prog X.w) A (getAttr (.ref a) f b) Q E s:=by
 obtain⟨mA,O,r,_,_,_⟩:=Qem I.hok e
 obtain⟨u,hu,ru⟩:=RelO.some_of (v:=v) (o:=mA f) (by rw[<-l];exact r f)
 exact get_map I.kIn O (c.get f) c.hd n hu (Qje ru) (h u _ (I.tok _) ru)
theorem Qat{m:Str}{g:Addr}{pl:Sem Bool}{Q:Value×List Value->Shared->Prop}(I:Inv X pins σ H s)(e:H a=some (.ins C dx fs))(c:Cls X.K C)(k:Meth X.K C m g)(l:fs.lookup m=none)
  (h:Q (.ref g,[.ref a]) s):wpAny (model X.prog X.w) A (getMethod (.ref a) m pl) Q E s:=by
 obtain⟨mA,O,r,_,_,_⟩:=Qem I.hok e
 have hn:mA m=none:=RelO.none_of (by rw[<-l];exact r m)
 exact Qmw I.kIn O (c.get m) k.at_ k.fn hn h
theorem Qau{y:V}{u:Value}{Q:Unit->Shared->Prop}(I:Inv X pins σ H s)(e:H a=some (.ins C dx fs))(c:Cls X.K C)(n:NoAttr X.K C f)(hl:fs.length<1000)(ry:RelV y u)
  (h:∀s',Inv X pins σ (upd H a (.ins C dx (putF f y fs))) s'->Q () s'):wpAny (model X.prog X.w) A (setAttr (.ref a) f u) Q E s:=by
 obtain⟨mA,O,r,wi,_,ho⟩:=Qem I.hok e
 have hz:(fs.map (·.1)).length<=sizeLine:=by rw[jQ,sizeLine_eq];lia
 refine set_map I.kIn O c.sa c.po n.taker c.hd wi hz fun h' O' sb=>h _ ?_
 have hd:∃o,h'.get? dx=some o:=let ⟨o,_,_,e',_⟩:=O'.ns;⟨o,e'⟩
 refine I.write (x:=a) (e:=dx) (by rw[e];exact True.intro) (.inr ho) (fun b q hb z=>(sb.2 b hb).trans z) hd ?_
 refine⟨by rw[Qj O.ne];exact ho,?_,O.ne,O'.obj,_,O'.ns,fun g=>?_,fun g hg=>?_⟩
 .have:=Kn f y fs;lia
 .show RelO ((putF f y fs).lookup g) (if g=f then some u else mA g)
  rw[Xr]
  by_cases q:g=f
  .rw[if_pos q,if_pos q];exact ry
  .rw[if_neg q,if_neg q];exact r g
 .by_cases q:g=f
  .rw[q];exact(Wn f y fs).1
  .refine(Wn f y fs).2 g (wi g fun z=>hg ?_)
   show(if g=f then some u else mA g)=none
   rw[if_neg q];exact z
theorem Inv.made(I:Inv X pins σ H s):Inv X pins σ (upd (upd H s.heap.objs.size (.own (s.heap.objs.size+1))) (s.heap.objs.size+1) (.ins C s.heap.objs.size []))
  { s with heap:=(s.heap.push PySem.W.emptyDict).push (PySem.W.instObj C s.heap.objs.size) }:=by
 have e1:(s.heap.push PySem.W.emptyDict).get? s.heap.objs.size=some PySem.W.emptyDict:=yJ s.heap rfl
 have e2:((s.heap.push PySem.W.emptyDict).push (PySem.W.instObj C s.heap.objs.size)).get? (s.heap.objs.size+1)=some (PySem.W.instObj C s.heap.objs.size):=by
  have:=yJ (s.heap.push PySem.W.emptyDict) (o:=PySem.W.instObj C s.heap.objs.size) rfl
  rwa [jJa]at this
 have e3:(s.heap.push PySem.W.emptyDict).Ns s.heap.objs.size (fun _=>none):=⟨PySem.W.emptyDict,#[],_,e1,rfl,(fun e he=>absurd he (by simp)),fun _=>rfl⟩
 have I1:=I.laid (a:=s.heap.objs.size) (o:=.own (s.heap.objs.size+1)) (h':=s.heap.push PySem.W.emptyDict) (t':=s.toks) (fun b u q=>jK _ q) (jY _) ⟨_,e1⟩
 refine I1.laid (a:=s.heap.objs.size+1) (o:=.ins C s.heap.objs.size []) (t':=s.toks) (fun b u q=>jK _ q) (Nat.le_of_eq (jJa _ _)) ?_
 have ne:s.heap.objs.size≠s.heap.objs.size+1:=zJ (jJd _)
 refine⟨by rw[Qj ne,Qc],jQc _,ne,e2,fun _=>none,(Heap.Ns1.of_empty e3).at fun o q=>jK _ q,fun _=>True.intro,fun y hy=>absurd rfl hy⟩
theorem Qrh{prog:Program}{w:World}{env:Env}{e:Expr}{f:Str}{pos:Pos}{s:Shared}{Q:Value->Shared->Prop}(hb:attributeBase e f env (eval e env)=eval e env)
  (h:wpAny (model prog w) A (eval e env) (fun o s₁=>wpAny (model prog w) A (getAttr o f true) Q E s₁) E s):wpAny (model prog w) A (eval (.Attribute e f pos) env) Q E s :=
 Attribute_any_ h (by rw[arm_eval_Attribute,hb])
end
def tFld(K:Fg)(ta:TE)(f:Str):TE:=fun σ H Q=>ta σ H fun x H1=>∃a C dx fs v,x=.ref a/\H1 a=some (.ins C dx fs)/\Cls K C/\NoAttr K C f/\fs.lookup f=some v/\Q v H1
def sFld(K:Fg)(ta tv:TE)(f:Str):TS:=fun D σ H=>tv σ H fun y H1=>ta σ H1 fun x H2=>∃a C dx fs,x=.ref a/\H2 a=some (.ins C dx fs)/\Cls K C/\NoAttr K C f/\fs.length<1000 /\
 D.nx σ (upd H2 a (.ins C dx (putF f y fs)))
def InOp(X:Cx)(op:Operator)(rd:V->V->Hp->VK->Prop):Prop :=
 ∀(pins:List (Addr×Obj)) (s:Shared) (σ:St) (H:Hp) (x y:V) (u v:Value) (Q:VK),Inv X pins σ H s->RelV x u->RelV y v->rd x y H Q->wpAny (model X.prog X.w) X.A (inplaceOp op u v) (EP X pins σ Q) X.xe s
def Qjf(K:Fg)(ta tv:TE)(rd:V->V->Hp->VK->Prop)(f:Str):TS:=fun D σ H=>ta σ H fun x H1=>∃a C dx fs v,x=.ref a/\H1 a=some (.ins C dx fs)/\Cls K C/\NoAttr K C f/\fs.lookup f=some v /\
 tv σ H1 fun y H2=>rd v y H2 fun z H3=>∃dx' fs',H3 a=some (.ins C dx' fs')/\fs'.length<1000/\D.nx σ (upd H3 a (.ins C dx' (putF f z fs')))
section
variable{X:Cx}{o e value:Expr}{f:Str}{pos pos' tpos:Pos}{ta tv:TE}
theorem Qq(he:PE X e ta)(hb:attributeBase e f X.env (eval e X.env)=eval e X.env):PE X (.Attribute e f pos) (tFld X.K ta f):=by
 intro pins s σ H Q I h
 refine Qrh hb (thn (he pins s σ H _ I h) fun u s1 hqP=>?_)
 obtain⟨x,H1,I1,rx,a,C,dx,fs,v,ex,ea,c,n,l,q⟩:=hqP
 subst ex
 obtain rfl:u=Value.ref a:=rx
 exact Qas I1 ea c n l fun u' s2 I2 ru=>⟨v,H1,I2,ru,q⟩
theorem Zp(ha:PE X o ta)(hv:PE X value tv)(hs:swapsWith value (some (.Attribute o f pos')) pos.line X.env=pure false):PS X (.Assign [.Attribute o f pos'] value pos) (sFld X.K ta tv f):=by
 intro pins s σ H D I h
 refine plainObj_wpAny_Assign_Attribute (thn (hv pins s σ H _ I h) fun u s1 ⟨y,H1,I1,ry,q⟩=>thn (ha pins s1 σ H1 _ I1 q) fun ov s2 hqP=>?_) hs
 obtain⟨x,H2,I2,rx,a,C,dx,fs,ex,ea,c,n,l,q2⟩:=hqP
 subst ex
 obtain rfl:ov=Value.ref a:=rx
 exact Qau I2 ea c n l ry fun s3 I3=>⟨σ,_,I3,q2⟩
theorem Qjg{op:Operator}{rd:V->V->Hp->VK->Prop}(ha:PE X o ta)(hv:PE X value tv)(hop:InOp X op rd):PS X (.AugAssign (.Attribute o f tpos) op value pos) (Qjf X.K ta tv rd f):=by
 intro pins s σ H D I h
 refine wpAny_AugAssign_AttributeAny (thn (ha pins s σ H _ I h) fun ov s1 hqP=>?_)
 obtain⟨x,H1,I1,rx,a,C,dx,fs,v,ex,ea,c,n,l,q⟩:=hqP
 subst ex
 obtain rfl:ov=Value.ref a:=rx
 refine Qas I1 ea c n l fun u s2 I2 ru=>thn (hv pins s2 σ H1 _ I2 q) fun w3 s3 ⟨y,H2,I3,ry,q3⟩=>thn (hop pins s3 σ H2 v y u w3 _ I3 ru ry q3) fun w4 s4 hqP=>?_
 obtain⟨z,H3,I4,rz,dx',fs',ea',l',q4⟩:=hqP
 exact Qau I4 ea' c n l' rz fun s5 I5=>⟨σ,_,I5,q4⟩
def rAdd:V->V->Hp->VK->Prop:=fun x y H Q=>∃i j,x=.int i/\y=.int j/\Q (.int (i+j)) H
theorem in_add:InOp X .Add rAdd:=by
 rintro pins s σ H x y u v Q I rx ry ⟨i,j,rfl,rfl,q⟩
 obtain⟨t,rfl⟩:=(show ∃t,u=Value.int i t from rx)
 obtain⟨t',rfl⟩:=(show ∃t',v=Value.int j t' from ry)
 exact PyProof.Rows.iadd_int ⟨.int (i+j),H,I.tok _,⟨_,rfl⟩,q⟩
end
structure Room(k:Nat)(A:Around):Prop where
 hd:A.handled=none
 dp:A.depth+3*k+5<recursionLimit
 un:A.units+16*k+200<cLine
theorem Room.mono{j k:Nat}{A:Around}(r:Room k A)(h:j<=k):Room j A:=⟨r.hd,by have:=r.dp;lia,by have:=r.un;lia⟩
theorem Room.deeper{k:Nat}{A:Around}(r:Room (k+1) A)(env:Env):Room k (A.deeper env) :=
 ⟨r.hd,by have:=r.dp;show A.depth+1+3*k+5<_;lia,by have:=r.un;show A.units+3+16*k+200<_;lia⟩
theorem Qhc{A:Around}{C:Addr}{us:List Value}{kw:List (Str×Value)}:(A.under (.builtin "type.__call__" ⟨.ref C::us,kw⟩)).depth=A.depth+1:=by
 first | rfl | simp[Around.under,Code.weight,Code.isCreation,Code.isGuard,Code.isCaller,Code.frames,Code.isFrame,guardIds]
theorem Qhd{A:Around}{C:Addr}{us:List Value}{kw:List (Str×Value)}:(A.under (.builtin "type.__call__" ⟨.ref C::us,kw⟩)).units=A.units+1:=by
 first | rfl | simp[Around.under,Code.cUnits,Code.frames,Code.isFrame]
theorem Room.make{k:Nat}{A:Around}(r:Room (k+1) A)(C:Addr)(us:List Value)(kw:List (Str×Value)):Room k (A.under (.builtin "type.__call__" ⟨.ref C::us,kw⟩)) :=
 ⟨r.hd,by have:=r.dp;rw[Qhc];lia,by have:=r.un;rw[Qhd];lia⟩
theorem Room.depth{k:Nat}{A:Around}(r:Room k A):A.depth<recursionLimit:=by have:=r.dp;lia
theorem Room.units{k:Nat}{A:Around}(r:Room k A):A.units+64<cLine:=by have:=r.un;lia
def tNil:TA:=fun _ H Q=>Q [] H
def tCons(ta:TE)(tr:TA):TA:=fun σ H Q=>ta σ H fun x H1=>tr σ H1 fun xs H2=>Q (x::xs) H2
section
variable{X:Cx}{e:Expr}{es:List Expr}{te:TE}{t:TA}{pos:Pos}
theorem Qe:PA X [] tNil:=fun _ _ _ _ H Q I h=>Calls.spliced_nil ⟨[],H,I,.nil,h⟩
theorem Qa(ha:PE X e te)(hr:PA X es t)(hs:autoParam (starEach (e::es) X.env=(false,eval e X.env)::starEach es X.env) L2.aRfl._auto_1):PA X (e::es) (tCons te t):=by
 intro pos pins s σ H Q I h
 rw[hs]
 show wpAny _ _ (spliced ((false,eval e X.env)::backTo pos (starEach es X.env))) _ _ s
 refine Calls.spliced_cons (thn (ha pins s σ H _ I h) fun u s1 hqP=>?_)
 obtain⟨x,H1,I1,r1,q1⟩:=hqP
 exact thn (hr pos pins s1 σ H1 _ I1 q1) fun us s2 ⟨xs,H2,I2,r2,q2⟩=>⟨x::xs,H2,I2,.cons r1 r2,q2⟩
def tTup(t:TA):TE:=fun σ H Q=>t σ H fun xs H1=>xs.length<=sizeLine/\∀p,H1 p=none->Q (.ref p) (upd H1 p (.tup xs))
def tLst(t:TA):TE:=fun σ H Q=>t σ H fun xs H1=>xs.length<=sizeLine/\∀p,H1 p=none->Q (.ref p) (upd H1 p (.lst xs))
theorem Xk{x1}(h:PA X es t):PE X (.Tuple es x1 pos) (tTup t):=by
 intro pins s σ H Q I hq
 refine wpAny_Tuple_spliced (thn (h pos pins s σ H _ I hq) fun us s1 ⟨xs,H1,I1,r,z,q⟩=>⟨by rw[<-r.length];exact z,?_⟩)
 have hf:H1 s1.heap.objs.size=none:=I1.hok.fresh (jY _)
 refine⟨.ref s1.heap.objs.size,upd H1 s1.heap.objs.size (.tup xs),I1.laid (t':=s1.toks) (fun b u e=>jK _ e) (jY _) ?_,rfl,q _ hf⟩
 exact⟨z,us,r,⟨_,yJ _ rfl,rfl,_,rfl⟩⟩
theorem Xz(h:PA X es t):PE X (.List es pos) (tLst t):=by
 intro pins s σ H Q I hq
 refine wpAny_List_spliced (thn (h pos pins s σ H _ I hq) fun us s1 ⟨xs,H1,I1,r,z,q⟩=>⟨by rw[<-r.length];exact z,?_⟩)
 have hf:H1 s1.heap.objs.size=none:=I1.hok.fresh (jY _)
 refine⟨.ref s1.heap.objs.size,upd H1 s1.heap.objs.size (.lst xs),I1.laid (t':=s1.toks) (fun b u e=>jK _ e) (jY _) ?_,rfl,q _ hf⟩
 exact⟨z,us,0,r,yJ _ rfl⟩
end
abbrev Sp:=List V->Hp->VK->XK->Prop
abbrev CXT:=List Env->Hp->Shared->XK->Value->Shared->Prop
structure Env0(P:Program)(w:World)(K:Fg)(mg:Str->Option Value)(base:Heap)(A:Around)(outer:List Env)(s:Shared)(H:Hp):Prop where
 frames:A.frames=some outer
 mod:Mod K mg base
 bs:∀b o,base.get? b=some o->s.heap.get? b=some o/\H b=none
 bsz:base.objs.size<=s.heap.objs.size
 funs:s.heap.FunFrames base outer
 frf:∀b∈frs outer,H b=none
 hok:HOk P w H s.heap
 bare:AllBare s.gens
def CE(outer:List Env)(P:Program)(w:World)(H:Hp)(s:Shared)(Q:VK)(u:Value)(s':Shared):Prop :=
 ∃v H',s'.os=s.os/\AllBare s'.gens/\Un (frs outer) [] H H' s.heap s'.heap/\HOk P w H' s'.heap/\RelV v u/\Q v H'
def CR(CX:CXT)(outer:List Env)(P:Program)(w:World)(H:Hp)(s:Shared)(Q:VK)(E:XK)(r:Result)(s':Shared):Prop :=
 match r with
 |.ok (.ret u)=>CE outer P w H s Q u s'
 |.ok _=>False
 |.error e=>CX outer H s E e s'
structure FnOk(P:Program)(w:World)(K:Fg)(mg:Str->Option Value)(base:Heap)(CX:CXT)(k:Nat)(f:Addr)(fd:FuncData)(ps:List Str)(sp:Sp):Prop where
 len:∀vs H Q E,sp vs H Q E->vs.length=ps.length
 run:∀(A:Around) (outer:List Env) (s:Shared) (H:Hp) (args:Args) (us:List Value) (vs:List V) (Q:VK) (E:XK),Room k A->Env0 P w K mg base A outer s H->BindsTo s fd args (ps.zip us)->Vals vs us->sp vs H Q E ->
  codeAny (model P w) A (.call (.ref f) args) (CR CX outer P w H s Q E) s
theorem Env0.make{P:Program}{w:World}{K:Fg}{mg:Str->Option Value}{base:Heap}{A:Around}{outer:List Env}{s:Shared}{H:Hp}(e:Env0 P w K mg base A outer s H)(C:Addr)(us:List Value)(kw:List (Str×Value)) :
  Env0 P w K mg base (A.under (.builtin "type.__call__" ⟨.ref C::us,kw⟩)) outer s H:=⟨by first | exact e.frames | (simpa[Around.under,Code.envs,Code.isFrame,pushEnvs]using e.frames),e.mod,e.bs,e.bsz,e.funs,e.frf,e.hok,e.bare⟩
section
variable{X:Cx}{pins:List (Addr×Obj)}{σ:St}{H:Hp}{s s':Shared}
theorem Inv.env0(I:Inv X pins σ H s):Env0 X.prog X.w X.K X.mg X.base X.A X.stack s H :=
 ⟨I.ok.frames,I.ok.mod,I.bs,jQb I.ok.bsz I.sz,I.stack,I.stkFree,I.hok,I.bare⟩
theorem Inv.after{Q:VK}{u:Value}(I:Inv X pins σ H s)(h:CE X.stack X.prog X.w H s Q u s'):EP X pins σ Q u s':=by
 obtain⟨v,H',os,bare,un,hok,r,q⟩:=h
 obtain⟨hh,g,d,t,os'⟩:=s'
 obtain rfl:os'=s.os:=os
 exact⟨v,H',I.call (h':=hh) (g':=g) (d':=d) (t':=t) (ch:=[]) un hok bare (fun b z=>absurd z (by simp)),r,q⟩
end
def tCall(sp:Sp)(dvs:List V)(E:XK)(t:TA):TE:=fun σ H Q=>t σ H fun vs H1=>sp (vs++dvs) H1 Q E
def tMeth(C:Addr)(m:Str)(sp:Sp)(dvs:List V)(E:XK)(ta:TE)(t:TA):TE:=fun σ H Q=>ta σ H fun x H1=>∃a dx fs,x=.ref a/\H1 a=some (.ins C dx fs)/\fs.lookup m=none /\
 t σ H1 fun vs H2=>sp (x::(vs++dvs)) H2 Q E
def tMake(C:Addr)(sp:Sp)(dvs:List V)(E:XK)(t:TA):TE:=fun σ H Q=>t σ H fun vs H1=>∀x dx,H1 x=none->H1 dx=none->dx≠x ->
 sp (.ref x::(vs++dvs)) (upd (upd H1 dx (.own x)) x (.ins C dx [])) (fun v H2=>v=.non/\Q (.ref x) H2) E
def Binds(K:Fg)(fd:FuncData)(ps:List Str)(ds:List Value):Prop :=
 ∀(s:Shared) (us:List Value),K.In s.heap->(us++ds).length=ps.length->BindsTo s fd ⟨us,[]⟩ (ps.zip (us++ds))
theorem Binds.all{K:Fg}{fd:FuncData}{ps:List Str}(h:∀us:List Value,us.length=ps.length->bindArgs fd ⟨us,[]⟩=pure (ps.zip us)):Binds K fd ps []:=fun s us _ hl=>by
 rw[kKf]at hl⊢
 exact .of_eq (h us hl)
def Wo(CX:CXT)(X:Cx)(E:XK):Prop:=∀(pins:List (Addr×Obj)) (σ:St) (H:Hp) (s:Shared) (e:Value) (s':Shared),Inv X pins σ H s->CX X.stack H s E e s'->X.xe e s'
section
variable{X:Cx}{CX:CXT}{k:Nat}{f C:Addr}{fd:FuncData}{ps:List Str}{sp:Sp}{dvs:List V}{ds:List Value}{E:XK}{x m:Str}{p pos apos:Pos}{e o:Expr}{es:List Expr}{ta:TE}{t:TA}
theorem Qjh{pins:List (Addr×Obj)}{σ:St}{H:Hp}{s:Shared}{Q:VK}{us:List Value}{vs:List V}(F:FnOk X.prog X.w X.K X.mg X.base CX k f fd ps sp)(hr:Room k X.A)(hb:Binds X.K fd ps ds)(hd:Vals dvs ds)(hx:Wo CX X E)
  (I:Inv X pins σ H s) (r:Vals vs us) (h:sp (vs++dvs) H Q E):wpAny (model X.prog X.w) X.A (call (.ref f) us) (EP X pins σ Q) X.xe s:=by
 have r2:Vals (vs++dvs) (us++ds):=r.append hd
 have hl:(us++ds).length=ps.length:=by rw[<-r2.length];exact F.len _ _ _ _ h
 refine wpAny_call (codeAny_mono (F.run X.A X.stack s H ⟨us,[]⟩ (us++ds) (vs++dvs) Q E hr I.env0 (hb s us I.kIn hl) r2 h) fun r s' hq=>?_)
 cases r with
 |error e=>exact hx pins σ H s e s' I hq
 |ok fl=>
  cases fl with
  |ret u=>exact I.after hq
  |next=>exact False.elim hq
  |brk=>exact False.elim hq
  |cont=>exact False.elim hq
theorem Qri(F:FnOk X.prog X.w X.K X.mg X.base CX k f fd ps sp)(hr:Room k X.A)(hg:Gl X x)(hm:X.mg x=some (.ref f))(hk:PySem.W.keepIn X.K (.ref f)=true)(hb:Binds X.K fd ps ds)(hd:Vals dvs ds)(hx:Wo CX X E)
  (ha:PA X (e::es) t) (hdb:autoParam ((x == ("__debug__":Str))=false) L2.aDec._auto_1) (he:autoParam (starEach (e::es) X.env=(false,eval e X.env)::starEach es X.env) L2.aRfl._auto_1) (hpl:autoParam ((backTo pos (starEach es X.env)).any (·.1)=false) L2.aRfl._auto_1) :
  PE X (.Call (.Name x p) (e::es) [] pos) (tCall sp dvs E t):=by
 intro pins s σ H Q I h
 refine wpAny_Call_Name_kw (Qel I hg hm ?_ hdb)
 refine PySem.W.callWith_K (h₀:=X.base) I.ok.mod.kin hk (thn (ha pos pins s σ H _ I h) fun us s1 ⟨vs,H1,I1,r,q⟩=>⟨I1.kIn,?_⟩) he hpl
 exact Qjh F hr hb hd hx I1 r q
theorem Xf{pl:Sem Bool}(he:PE X o ta)(c:Cls X.K C)(hm:Meth X.K C m f)(F:FnOk X.prog X.w X.K X.mg X.base CX k f fd ps sp)(hr:Room k X.A)(hb:Binds X.K fd ps ds)(hd:Vals dvs ds)(hx:Wo CX X E)(ha:PA X (e::es) t)
  (hst:autoParam (starEach (e::es) X.env=(false,eval e X.env)::starEach es X.env) L2.aRfl._auto_1) (hpl:autoParam ((backTo pos (starEach es X.env)).any (·.1)=false) L2.aRfl._auto_1)
  (ht:eval (.Call (.Attribute o m apos) (e::es) [] pos) X.env=(do
   let ov ← eval o X.env
   standAt apos.atName
   let (f,first) ← holding [ov] (getMethod ov m pl)
   callWith pos f first (backTo pos (starEach (e::es) X.env)) (backToKw pos (keywordEach [] X.env))):=by rfl) :
  PE X (.Call (.Attribute o m apos) (e::es) [] pos) (tMeth C m sp dvs E ta t):=by
 intro pins s σ H Q I h
 refine PySem.W.methodCall_KW (pl:=pl) (thn (he pins s σ H _ I h) fun u s1 hqP=>?_) ht
 obtain⟨x,H1,I1,rx,a,dx,fs,ex,ea,l,q⟩:=hqP
 subst ex
 obtain rfl:u=Value.ref a:=rx
 refine Qat I1 ea c hm l ?_
 refine PySem.W.callWith_K (first:=[.ref a]) (h₀:=X.base) I.ok.mod.kin hm.kp (thn (ha pos pins s1 σ H1 _ I1 q) fun us s2 ⟨vs,H2,I2,r,q2⟩=>⟨I2.kIn,?_⟩) hst hpl
 exact Qjh (us:=.ref a::us) (vs:=.ref a::vs) F hr hb hd hx I2 (.cons rfl r) q2
theorem Qbm{pl:Sem Bool}(he:PE X o ta)(c:Cls X.K C)(hm:Meth X.K C m f)(F:FnOk X.prog X.w X.K X.mg X.base CX k f fd ps sp)(hr:Room k X.A)(hb:Binds X.K fd ps ds)(hd:Vals dvs ds)(hx:Wo CX X E)
  (ht:eval (.Call (.Attribute o m apos) [] [] pos) X.env=(do
   let ov ← eval o X.env
   standAt apos.atName
   let (f,first) ← holding [ov] (getMethod ov m pl)
   callWith pos f first (backTo pos (starEach [] X.env)) (backToKw pos (keywordEach [] X.env))):=by rfl) :
  PE X (.Call (.Attribute o m apos) [] [] pos) (tMeth C m sp dvs E ta tNil):=by
 intro pins s σ H Q I h
 refine PySem.W.methodCall_KW (pl:=pl) (thn (he pins s σ H _ I h) fun u s1 hqP=>?_) ht
 obtain⟨x,H1,I1,rx,a,dx,fs,ex,ea,l,q⟩:=hqP
 subst ex
 obtain rfl:u=Value.ref a:=rx
 refine Qat I1 ea c hm l ?_
 exact PySem.W.callWith_K0 (first:=[.ref a]) I1.kIn hm.kp (Qjh (us:=[.ref a]) (vs:=[.ref a]) F hr hb hd hx I1 (.cons rfl .nil) q)
structure Mk(K:Fg)(C f:Addr):Prop where
 makes:PySem.W.makesIn K C=true
 init:PySem.W.findIn K (.ref C) "__init__"=some (some (.ref f))
 fn:PySem.W.isFn K (.ref f)=true
 kp:PySem.W.keepIn K (.ref C)=true
theorem Qmy{pins:List (Addr×Obj)}{σ:St}{H:Hp}{s:Shared}{Q:VK}{us:List Value}{vs:List V}(M:Mk X.K C f)(F:FnOk X.prog X.w X.K X.mg X.base CX k f fd ps sp)(hr:Room (k+1) X.A)(hb:Binds X.K fd ps ds)(hd:Vals dvs ds)
  (hx:Wo CX X E) (I:Inv X pins σ H s) (r:Vals vs us)
  (h:∀x dx,H x=none->H dx=none->dx≠x->sp (.ref x::(vs++dvs)) (upd (upd H dx (.own x)) x (.ins C dx [])) (fun v H2=>v=.non/\Q (.ref x) H2) E) :
  wpAny (model X.prog X.w) X.A (call (.ref C) us) (EP X pins σ Q) X.xe s:=by
 have hq:=h (s.heap.objs.size+1) s.heap.objs.size (I.hok.fresh (Nat.le_succ _)) (I.hok.fresh (jY _)) (zJ (jJd _))
 have I2:=Inv.made (C:=C) I
 have r2:Vals (V.ref (s.heap.objs.size+1)::(vs++dvs)) (Value.ref (s.heap.objs.size+1)::(us++ds)):=.cons rfl (r.append hd)
 have hl:(Value.ref (s.heap.objs.size+1)::us++ds).length=ps.length:=by
  have e:=r2.length
  rw[F.len _ _ _ _ hq]at e
  exact e.symm
 refine wpAny_call (Qmx (f:=f) I.kIn M.makes M.init (beq_iff_eq.mp M.fn) (codeAny_mono (F.run _ X.stack _ _ ⟨Value.ref (s.heap.objs.size+1)::us,[]⟩ (Value.ref (s.heap.objs.size+1)::(us++ds)) _ _ E (hr.make C us [])
  (I2.env0.make C us []) (hb _ (Value.ref (s.heap.objs.size+1)::us) I2.kIn hl) r2 hq) fun r s' hq'=>?_))
 cases r with
 |error e=>exact hx pins σ _ _ e s' I2 hq'
 |ok fl=>
  cases fl with
  |ret u=>
   obtain⟨v,H',I3,rv,ev,q3⟩:=I2.after hq'
   subst ev
   exact⟨rv,⟨V.ref (s.heap.objs.size+1),H',I3,rfl,q3⟩⟩
  |next=>exact False.elim hq'
  |brk=>exact False.elim hq'
  |cont=>exact False.elim hq'
theorem Qji(M:Mk X.K C f)(F:FnOk X.prog X.w X.K X.mg X.base CX k f fd ps sp)(hr:Room (k+1) X.A)(hg:Gl X x)(hm:X.mg x=some (.ref C))(hb:Binds X.K fd ps ds)(hd:Vals dvs ds)(hx:Wo CX X E)
  (ha:PA X (e::es) t) (hdb:autoParam ((x == ("__debug__":Str))=false) L2.aDec._auto_1) (he:autoParam (starEach (e::es) X.env=(false,eval e X.env)::starEach es X.env) L2.aRfl._auto_1) (hpl:autoParam ((backTo pos (starEach es X.env)).any (·.1)=false) L2.aRfl._auto_1) :
  PE X (.Call (.Name x p) (e::es) [] pos) (tMake C sp dvs E t):=by
 intro pins s σ H Q I h
 refine wpAny_Call_Name_kw (Qel I hg hm ?_ hdb)
 refine PySem.W.callWith_K (h₀:=X.base) I.ok.mod.kin M.kp (thn (ha pos pins s σ H _ I h) fun us s1 ⟨vs,H1,I1,r,q⟩=>⟨I1.kIn,?_⟩) he hpl
 exact Qmy M F hr hb hd hx I1 r q
end
structure FnScope(N P:List Str)(sc:Scope):Prop where
 kind:sc.kind=.function
 co:sc.isCoroutine=false
 gen:sc.isGenerator=false
 nd:N.Nodup
 pre:N.take P.length=P
 par:∀x∈P,sc.names.lookup x=some .local\/sc.names.lookup x=some .cell
 nofree:∀y∈sc.names,y.2≠.free
theorem Qda{kindOf:Str->Option NameKind}{x:Str}:∀{binds:List (Str×Value)} {m:Str->Option Value},(∀v,(x,v)∉binds)->bindL kindOf binds m x=m x
 |[],_,_=>rfl
 |(n,v)::r,m,h=>by
  unfold bindL
  rw[Qda fun w hw=>h w (yZ _ hw)]
  split
  .have:x≠n:=by rintro rfl;exact h v yV
   simp[this]
  .rfl
theorem Qdb{kindOf:Str->Option NameKind}{x:Str}:∀{binds:List (Str×Value)} {m:Str->Option Value},(∀v,(x,v)∉binds)->bindC kindOf binds m x=m x
 |[],_,_=>rfl
 |(n,v)::r,m,h=>by
  unfold bindC
  rw[Qdb fun w hw=>h w (yZ _ hw)]
  split
  .rfl
  .have:x≠n:=by rintro rfl;exact h v yV
   simp[this]
theorem Qdc{kindOf:Str->Option NameKind}{x:Str}{v:Value}:∀{P:List Str} {vs:List Value} {i:Nat} {m:Str->Option Value},P.Nodup->P[i]?=some x->vs[i]?=some v->kindOf x=some .local ->
  bindL kindOf (P.zip vs) m x=some v
 |[],_,_,_,_,h,_,_=>by simp at h
 |_::_,[],_,_,_,_,h,_=>by simp at h
 |p::P,w::vs,0,m,nd,h1,h2,hk=>by
  simp at h1 h2;subst h1;subst h2
  show bindL kindOf ((p,w)::P.zip vs) m p=_
  unfold bindL
  rw[Qda fun v hv=>(kJ.mp nd).1 (List.of_mem_zip hv).1,if_pos hk]
  simp
 |p::P,w::vs,i+1,m,nd,h1,h2,hk=>by
  show bindL kindOf ((p,w)::P.zip vs) m x=_
  unfold bindL
  exact Qdc (i:=i) (kJ.mp nd).2 (by simpa using h1) (by simpa using h2) hk
theorem Qdd{kindOf:Str->Option NameKind}{x:Str}{v:Value}:∀{P:List Str} {vs:List Value} {i:Nat} {m:Str->Option Value},P.Nodup->P[i]?=some x->vs[i]?=some v->kindOf x≠some .local ->
  bindC kindOf (P.zip vs) m x=some v
 |[],_,_,_,_,h,_,_=>by simp at h
 |_::_,[],_,_,_,_,h,_=>by simp at h
 |p::P,w::vs,0,m,nd,h1,h2,hk=>by
  simp at h1 h2;subst h1;subst h2
  show bindC kindOf ((p,w)::P.zip vs) m p=_
  unfold bindC
  rw[Qdb fun v hv=>(kJ.mp nd).1 (List.of_mem_zip hv).1,if_neg hk]
  simp
 |p::P,w::vs,i+1,m,nd,h1,h2,hk=>by
  show bindC kindOf ((p,w)::P.zip vs) m x=_
  unfold bindC
  exact Qdd (i:=i) (kJ.mp nd).2 (by simpa using h1) (by simpa using h2) hk
def start(N:List Str)(vs:List V):St:=vs.map some++List.replicate (N.length-vs.length) none
def cxOf(CX:CXT)(P:Program)(w:World)(K:Fg)(mg:Str->Option Value)(base:Heap)(N:List Str)(qual:Str)(scope:Scope)(f:Addr)(cd:Value)(A:Around)(outer:List Env)(s:Shared)(H:Hp)(E:XK):Cx where
 prog:=P
 w:=w
 K:=K
 mg:=mg
 base:=base
 A:=A.deeper (envOfC qual scope s.heap.objs.size f cd)
 N:=N
 s₀:=s
 H₀:=H
 env:=envOfC qual scope s.heap.objs.size f cd
 outer:=outer
 stack:=envOfC qual scope s.heap.objs.size f cd::outer
 ex:=[]
 calm:=true
 fn:=fun _=>true
 pn:=[]
 xe:=fun e s'=>wpAny (model P w) (A.deeper (envOfC qual scope s.heap.objs.size f cd)) (leaving (envOfC qual scope s.heap.objs.size f cd) e) (fun _ s''=>CX outer H s E e s'') (fun e' s''=>CX outer H s E e' s'') s'
theorem Qfu{sc:Scope}{n:Nat}{x:Str}(h:sc.names.lookup x=some .cell):∃c,(cellsFrom n sc.names []).lookup x=some c:=by
 have q:=PySem.W.cellsFrom_some sc.names n [] (.inl h)
 exact kXd.mp q
theorem Qjj{CX:CXT}{P:Program}{w:World}{K:Fg}{mg:Str->Option Value}{base:Heap}{N ps:List Str}{qual:Str}{scope:Scope}{f:Addr}{cd:Value}{A:Around}{outer:List Env}{s s1:Shared}{H:Hp}{E:XK}{us:List Value}{vs:List V}
  (S:FnScope N ps scope) (hd:A.handled=none) (e0:Env0 P w K mg base A outer s H) (hl:vs.length=ps.length) (r:Vals vs us)
  (x:InCallC s s.heap.objs.size (bindL (envOfC qual scope s.heap.objs.size f cd).kindOf (ps.zip us) fun _=>none) (cellsFrom (s.heap.objs.size+1) scope.names []) (bindC (envOfC qual scope s.heap.objs.size f cd).kindOf (ps.zip us) fun _=>none) s1) :
  Inv (cxOf CX P w K mg base N qual scope f cd A outer s H E) [] (start N vs) H s1:=by
 have hpl:ps.length<=N.length:=by have:=congrArg List.length S.pre;rw[xJ]at this;lia
 obtain⟨h1,tk,rfl,hk⟩:=x.done
 have noA:∀b:Addr,b∉(cxOf CX P w K mg base N qual scope f cd A outer s H E).ex:=fun b z=>absurd (show b∈([]:List Addr)from z) (by simp)
 refine⟨⟨e0.mod,S.kind,rfl,rfl,jY _,fun y z c h1 h2=>?_,fun y hy=>?_,fun y c _ h=>?_,fun _=>hd,Around.frames_deeper e0.frames,.inr ⟨rfl,rfl⟩,fun b z=>absurd z (noA b),e0.bs,e0.bsz,fun b _ _=>noA b,fun b z=>absurd z (noA b),e0.funs,e0.frf⟩,
  rfl,e0.bare,Un.kept hk,⟨_,x.toInCall.ns,fun i y v h1 h2 h3=>?_⟩,fun y c h=>⟨_,x.cell y c h⟩,e0.hok.fresh (jY _),fun y c h=>?_,fun p hp=>absurd (show p∈([]:List (Addr×Obj))from hp) (by simp),e0.hok.kept hk,?_⟩
 .exact name_of_addr x.apart (PySem.mem_of_lookup h1) (PySem.mem_of_lookup h2)
 .have hy:scope.names.lookup y=some .cell\/scope.names.lookup y=some .free:=hy
  rcases hy with hy | hy
  .exact Qfu hy
  .exact absurd rfl (S.nofree _ (PySem.mem_of_lookup hy))
 .exact Nat.le_of_lt (x.above y c (PySem.mem_of_lookup h))
 .have hi:i<vs.length:=by
   unfold start at h2
   by_cases hi:i<vs.length
   .exact hi
   .rw[wZ (by simpa using hi)]at h2
    rw[kKb]at h2
    split at h2<;>cases h2
  have ha:vs[i]?=some v:=by
   unfold start at h2
   rw[jZa (by simpa using hi),jJ]at h2
   cases e:vs[i]? with
   |none=>rw[e]at h2;cases h2
   |some a=>rw[e]at h2;cases h2;rfl
  obtain⟨u,hu,rv⟩:=r.get ha
  have hp:ps[i]?=some y:=by
   rw[<-S.pre,List.getElem?_take_of_lt Om];exact h1
  have ndP:ps.Nodup:=by rw[<-S.pre];exact S.nd.sublist (List.take_sublist _ _)
  refine⟨u,rv,?_⟩
  rcases S.par y (yQ hp)with k | k
  .exact .inl ⟨k,Qdc ndP hp hu k⟩
  .obtain⟨c,e⟩:=Qfu (n:=s.heap.objs.size+1) k
   refine .inr ⟨.inl k,c,e,?_⟩
   have q:=x.cell y c e
   rw[Qdd ndP hp hu (by show scope.names.lookup y≠_;rw[k];decide)]at q
   exact q
 .exact e0.hok.fresh (Nat.le_of_lt (x.above y c (PySem.mem_of_lookup h)))
 .unfold start
  show _=N.length
  rw[kZ,jQ,kQc]
  lia
theorem fn_of{CX:CXT}{P:Program}{w:World}{K:Fg}{mg:Str->Option Value}{base:Heap}{k:Nat}{f:Addr}{name qual:Str}{params:Arguments}{body:List Stmt}{scope:Scope}{dV kV doc pm cdv ct oc:Value}{an od:Option Addr}
  {osl:Array (Option Value)} {N ps:List Str} {sp:Sp} (lk:K.lookup f=some ⟨oc,od,.func (PySem.W.fnOf name qual params body scope dV kV doc pm an cdv ct),osl⟩) (hcd:PySem.W.codeIn K cdv qual=true) (S:FnScope N ps scope)
  (len:∀vs H Q E,sp vs H Q E->vs.length=ps.length)
  (hbody:∀(A:Around) (outer:List Env) (s:Shared) (H:Hp) (vs:List V) (Q:VK) (E:XK),Room k (A.deeper (envOfC qual scope s.heap.objs.size f cdv))->sp vs H Q E ->
   ∃t,PSs (cxOf CX P w K mg base N qual scope f cdv A outer s H E) body t/\t { nx:=fun _ H'=>Q .non H',rt:=Q } (start N vs) H) :
  FnOk P w K mg base CX (k+1) f (PySem.W.fnOf name qual params body scope dV kV doc pm an cdv ct) ps sp:=by
 refine⟨len,fun A outer s H args us vs Q E hr e0 hb r hsp=>?_⟩
 have hl:=len _ _ _ _ hsp
 have KX:K.In s.heap:=e0.mod.kin.keeps fun b o e=>(e0.bs b o e).1
 have lim:s.heap.NoLimit:=e0.mod.nolimit.keeps fun b o e=>(e0.bs b o e).1
 have hkind:∀y∈ps.zip us,scope.names.lookup y.1=some .local\/(scope.names.lookup y.1=some .cell/\((cellsFrom (s.heap.objs.size+1) scope.names []).lookup y.1).isSome=true):=fun⟨n,v⟩ hy=>by
  rcases S.par n (List.of_mem_zip hy).1 with q | q
  .exact .inl q
  .exact .inr ⟨q,PySem.W.cellsFrom_some _ _ _ (.inl q)⟩
 refine codeAny_call_function hr.depth (KX _ _ lk) rfl S.co S.gen rfl (PySem.W.codeRec_of KX hcd) (hb _ _ _ _ ?_)
 refine wpAny_newFunctionEnv_cells S.kind hkind fun env he s1 x=>?_
 subst he
 refine⟨lim.keeps x.toInCall.keep,codeAny_func ?_⟩
 obtain⟨t,ht,hq⟩:=hbody A outer s H vs Q E (hr.deeper _) hsp
 have I:Inv (cxOf CX P w K mg base N qual scope f cdv A outer s H E) [] (start N vs) H s1:=Qjj S hr.hd e0 hl r x
 refine wpAny_mono (ht [] s1 (start N vs) H _ I hq) (fun fl s' hs=>?_) fun e s' hs=>hs
 have fin:∀{σ':St} {H':Hp} {v:V} {u:Value},Inv (cxOf CX P w K mg base N qual scope f cdv A outer s H E) [] σ' H' s'->RelV v u->Q v H'->CE outer P w H s Q u s' :=
  fun{σ' H' v u} J rv q=>⟨v,H',J.os,J.bare,J.base,J.hok,rv,q⟩
 cases fl with
 |ret u=>
  obtain⟨v,σ',H',J,rv,q⟩:=hs
  exact fin J rv q
 |next=>
  obtain⟨σ',H',J,q⟩:=hs
  exact fin (v:=V.non) (u:=Value.none) J rfl q
 |brk=>
  obtain⟨_,_,_,q⟩:=hs
  exact False.elim q
 |cont=>
  obtain⟨_,_,_,q⟩:=hs
  exact False.elim q
section
variable{X:Cx}{x:Str}{p pos:Pos}{e:Expr}{es:List Expr}{t:TA}{id T:String}{r:List V->Hp->VK->Prop}
def tCB(r:List V->Hp->VK->Prop)(t:TA):TE:=fun σ H Q=>t σ H fun vs H1=>r vs H1 Q
theorem Ql(hc:Zv X (.builtin id) r)(hg:Gl X x)(hm:X.mg x=none)(hv:bootBuiltins x=some (.builtin id))(ha:PA X (e::es) t)(hn:autoParam (x≠"__name__") L2.aDec._auto_1)(hdb:autoParam ((x == ("__debug__":Str))=false) L2.aDec._auto_1)
  (he:autoParam (starEach (e::es) X.env=(false,eval e X.env)::starEach es X.env) L2.aRfl._auto_1) (hpl:autoParam ((backTo pos (starEach es X.env)).any (·.1)=false) L2.aRfl._auto_1):PE X (.Call (.Name x p) (e::es) [] pos) (tCB r t):=by
 intro pins s σ H Q I h
 refine wpAny_Call_Name_kw (Vr I hg hm hv ?_ hn hdb)
 exact PyProof.Rows.callWith_builtin1 (thn (ha pos pins s σ H _ I h) fun us s1 ⟨vs,H1,I1,r1,q1⟩=>hc pins s1 σ H1 vs us Q I1 r1 q1) he hpl
theorem Qz(hc:Zv X (.type T) r)(hg:Gl X x)(hm:X.mg x=none)(hv:bootBuiltins x=some (.type T))(ha:PA X (e::es) t)(hn:autoParam (x≠"__name__") L2.aDec._auto_1)(hdb:autoParam ((x == ("__debug__":Str))=false) L2.aDec._auto_1)
  (he:autoParam (starEach (e::es) X.env=(false,eval e X.env)::starEach es X.env) L2.aRfl._auto_1) (hpl:autoParam ((backTo pos (starEach es X.env)).any (·.1)=false) L2.aRfl._auto_1):PE X (.Call (.Name x p) (e::es) [] pos) (tCB r t):=by
 intro pins s σ H Q I h
 refine wpAny_Call_Name_kw (Vr I hg hm hv ?_ hn hdb)
 exact PyProof.Rows.callWith_type1 (thn (ha pos pins s σ H _ I h) fun us s1 ⟨vs,H1,I1,r1,q1⟩=>hc pins s1 σ H1 vs us Q I1 r1 q1) he hpl
end
end L2
namespace HT
open PySem PyProof.Rows
section
variable{prog:Program}{w:World}{A:Around}{E:Value->Shared->Prop}{s:Shared}
theorem cat_tup{t b:Addr}{vs ws:List Value}{Q:Value->Shared->Prop}(ht:IsTup s.heap t vs.toArray)(hb:IsTup s.heap b ws.toArray)(hv:vs≠[])
  (h1:ws=[]->Q (.ref t) s) (h2:ws≠[]->Q (.ref s.heap.objs.size) { s with heap:=s.heap.push { cls:=.type "tuple",data:=.seq (vs++ws).toArray } })
  (hsz:vs.length+ws.length<=sizeLine):wpAny (model prog w) A (binaryOp .Add (.ref t) (.ref b)) Q E s:=by
 obtain⟨⟨cls,dd,data,sl⟩,ho,hc,n,hd⟩:=id ht
 obtain⟨⟨cls2,dd2,data2,sl2⟩,ho2,hc2,n2,hd2⟩:=id hb
 simp only at hc hd hc2 hd2
 subst hc hd hc2 hd2
 have e:vs.toArray++ws.toArray=(vs++ws).toArray:=by simp
 by_cases hw:ws=[]
 .exact concat_meets ⟨_,ho,rfl⟩ ⟨_,ho2,rfl⟩ noFill_tuple_add seq_tuple_add PySem.F.slot_tuple_add PySem.F.entry_tuple_add (PySem.F.args_tuple_add_2 _ _)
   (tuple_addW1 t b vs.toArray ws.toArray n n2 dd dd2 sl sl2 (by simpa using hv) (by simp[hw])) ⟨ho,ho2,h1 hw⟩
 .refine concat_meets ⟨_,ho,rfl⟩ ⟨_,ho2,rfl⟩ noFill_tuple_add seq_tuple_add PySem.F.slot_tuple_add PySem.F.entry_tuple_add (PySem.F.args_tuple_add_2 _ _)
   (tuple_addW2 t b vs.toArray ws.toArray n n2 dd dd2 sl sl2 (by simpa using hv) (by simpa using hw) (by rw[kX,kX];exact hsz)) ⟨ho,ho2,?_⟩
  rw[e]
  exact h2 hw
def sIx(n d:Nat):Option Int->Nat
 |none=>d
 |some v=>if v<0 then(v+(n:Int)).toNat else min v.toNat n
theorem min_cast(v:Int)(n:Nat)(h:¬v<0):min v (n:Int)=((min v.toNat n:Nat):Int):=by
 obtain⟨k,rfl⟩:=Int.eq_ofNat_of_zero_le (Int.not_lt.mp h)
 rw[zK]
 rcases Nat.le_total k n with h | h
 .rw[Nat.min_eq_left h,Int.min_eq_left (Int.ofNat_le.mpr h)]
 .rw[Nat.min_eq_right h,Int.min_eq_right (Int.ofNat_le.mpr h)]
theorem clip_eq(v:Int)(n d:Nat):(if v<0 then max (v+(n:Int)) 0 else min v (n:Int))=((sIx n d (some v):Nat):Int):=by
 show(if v<0 then max (v+(n:Int)) 0 else min v (n:Int))=(((if v<0 then(v+(n:Int)).toNat else min v.toNat n):Nat):Int)
 by_cases hv:v<0
 .rw[if_pos hv,if_pos hv];exact(Int.ofNat_toNat _).symm
 .rw[if_neg hv,if_neg hv];exact min_cast v n hv
end
end HT
namespace L2
open PySem PySem.Spec PyProof.Rows
abbrev TO:=St->Hp->(Option Int->Hp->Prop)->Prop
def PO(X:Cx)(e:Option Expr)(t:TO):Prop :=
 ∀(pins:List (Addr×Obj)) (s:Shared) (σ:St) (H:Hp) (Q:Option Int->Hp->Prop),Inv X pins σ H s->t σ H Q ->
  wpAny (model X.prog X.w) X.A (evalPart e X.env) (fun u s'=>∃o H',Inv X pins σ H' s'/\IsPart u o/\Q o H') X.xe s
def Qrj:TO:=fun _ H Q=>Q none H
def tPart(t:TE):TO:=fun σ H Q=>t σ H fun x H1=>∃i,x=.int i/\Q (some i) H1
theorem intsAre_of{ns:List Int}:∀{us:List Value},Vals (ns.map V.int) us->IntsAre us ns:=by
 induction ns with
 |nil=>intro us r;rw[jYb]at r;cases r;exact .nil
 |cons n ns ih=>
  intro us r
  rw[yX]at r
  cases r with
  |cons r1 r2=>
   obtain⟨t,e⟩:=r1
   subst e
   exact .cons n t (ih r2)
section
variable{X:Cx}{e:Expr}{te:TE}{lo hi:Option Expr}{tl th:TO}{pos p2:Pos}
theorem Qen:PO X none Qrj:=by
 intro pins s σ H Q I h
 rw[evalPart_none]
 exact zX ⟨none,H,I,.none,h⟩
theorem Qeo(h:PE X e te):PO X (some e) (tPart te):=by
 intro pins s σ H Q I hw
 rw[evalPart_some]
 refine thn (h pins s σ H _ I hw) fun u s1 hqP=>?_
 obtain⟨x,H1,I1,r1,q1⟩:=hqP
 obtain⟨i,rfl,q⟩:=q1
 obtain⟨t,rfl⟩:=r1
 exact⟨some i,H1,I1,.int i t,q⟩
def SlR(X:Cx)(r:V->Option Int->Option Int->Hp->VK->Prop):Prop :=
 ∀(pins:List (Addr×Obj)) (s:Shared) (σ:St) (H:Hp) (x:V) (v vl vu:Value) (lo hi:Option Int) (sl:Addr) (Q:VK),Inv X pins σ H s->RelV x v->s.heap.IsSliceOf sl vl vu .none->IsPart vl lo->IsPart vu hi->r x lo hi H Q ->
  ∃T id,typeLookup (.type T) "__getitem__"=pure (some (.builtin id))/\s.TypeIs v T/\wpAny (model X.prog X.w) X.A (getItem v (.ref sl)) (EP X pins σ Q) X.xe s
def tSl(r:V->Option Int->Option Int->Hp->VK->Prop)(te:TE)(tl th:TO):TE:=fun σ H Q=>te σ H fun x H1=>tl σ H1 fun l H2=>th σ H2 fun u H3=>r x l u H3 Q
theorem Qbn{r:V->Option Int->Option Int->Hp->VK->Prop}(hr:SlR X r)(he:PE X e te)(hl:PO X lo tl)(hu:PO X hi th):PE X (.Subscript e (.Slice lo hi none p2) pos) (tSl r te tl th):=by
 intro pins s σ H Q I h
 refine Subscript_ (thn (he pins s σ H _ I h) fun v s1 hqP=>?_)
 obtain⟨x,H1,I1,r1,q1⟩:=hqP
 refine wpAny_Slice (thn (hl pins s1 σ H1 _ I1 q1) fun vl s2 ⟨l,H2,I2,pl,q2⟩=>thn (hu pins s2 σ H2 _ I2 q2) fun vu s3 hqP=>?_)
 obtain⟨u,H3,I3,pu,q3⟩:=hqP
 rw[evalPart_none]
 refine zX ?_
 have I4:Inv X pins σ H3 { s3 with heap:=s3.heap.push { cls:=.type "slice",data:=.fields #[vl,vu,.none] } }:=I3.kept (t':=s3.toks) fun b ob q=>jK _ q
 obtain⟨T,id,hT,ht,hg⟩:=hr pins { s3 with heap:=s3.heap.push { cls:=.type "slice",data:=.fields #[vl,vu,.none] } } σ H3 x v vl vu l u s3.heap.objs.size Q I4 r1 (Heap.IsSliceOf.new ..) pl pu q3
 show wpAny (model X.prog X.w) X.A (subscriptTail e (.Slice lo hi none p2) v (.ref s3.heap.objs.size)) (EP X pins σ Q) X.xe { s3 with heap:=s3.heap.push { cls:=.type "slice",data:=.fields #[vl,vu,.none] } }
 exact tail_any (ops:=[.ref s3.heap.objs.size,v]) ht hT hg (by with_unfolding_all rfl)
def cutV(xs:List V)(lo hi:Option Int):List V:=(xs.drop (HT.sIx xs.length 0 lo)).take (HT.sIx xs.length xs.length hi-HT.sIx xs.length 0 lo)
theorem Qep(xs:List V)(lo hi:Option Int):(cutV xs lo hi).length<=xs.length:=by
 unfold cutV
 rw[xJ,List.length_drop]
 lia
def rCatT(K:Fg):R2:=fun x y H Q=>∃a b xs ys,x=.ref a/\y=.ref b/\SqT K H a xs/\SqT K H b ys/\xs≠[]/\xs.length+ys.length<=sizeLine /\
 (ys=[]->Q (.ref a) H)/\(ys≠[]->∀p,H p=none->Q (.ref p) (upd H p (.tup (xs++ys))))
theorem Vals.nil_iff{xs:List V}{us:List Value}(r:Vals xs us):us=[]↔xs=[]:=by
 cases r with
 |nil=>simp
 |cons _ _=>simp
theorem Qjk:OpR X (binaryOp .Add) (rCatT X.K):=by
 intro pins s σ H x y v u Q I rx ry h
 obtain⟨a,b,xs,ys,rfl,rfl,ha,hb,hx,hz,q1,q2⟩:=h
 cases rx
 cases ry
 obtain⟨its,r1,p1,_⟩:=I.tuple ha
 obtain⟨its2,r2,p2,_⟩:=I.tuple hb
 refine HT.cat_tup p1 p2 (fun z=>hx (r1.nil_iff.mp z)) (fun z=>⟨.ref a,H,I,rfl,q1 (r2.nil_iff.mp z)⟩) (fun z=>?_) (by rw[<-r1.length,<-r2.length];exact hz)
 refine⟨.ref s.heap.objs.size,_,I.laid (t':=s.toks) (o:=.tup (xs++ys)) (fun b ob q=>jK _ q) (jY _) ?_,rfl,q2 (fun w=>z (r2.nil_iff.mpr w)) _ (I.hok.fresh (jY _))⟩
 exact⟨by rw[kZ];exact hz,_,r1.append r2,IsTup.new _ _⟩
end
def ixN(n:Nat)(i:Int):Option Nat:=if 0<=i then(if i<n then some i.toNat else none)else if -(n:Int)<=i then some (i+n).toNat else none
def atI{α:Type}(xs:List α)(i:Int):Option α:=(ixN xs.length i).bind fun j=>xs[j]?
theorem Qjl{n:Nat}{i:Int}{j:Nat}(h:ixN n i=some j):seqIndex? i n=some j/\j<n/\-(n:Int)<=i/\i<n:=by
 unfold ixN at h
 by_cases h0:0<=i
 .rw[if_pos h0]at h
  by_cases h1:i<n
  .rw[if_pos h1]at h
   have e:i.toNat=j:=Option.some.inj h
   exact⟨by rw[seqIndex_of h0 h1,e],Om,Om,h1⟩
  .rw[if_neg h1]at h;cases h
 .rw[if_neg h0]at h
  by_cases h1:-(n:Int)<=i
  .rw[if_pos h1]at h
   have e:(i+n).toNat=j:=Option.some.inj h
   exact⟨by rw[seqIndex_neg Om h1,e],Om,h1,Om⟩
  .rw[if_neg h1]at h;cases h
theorem Qeq{α:Type}{xs:List α}{i:Int}{v:α}(h:atI xs i=some v):∃j,seqIndex? i xs.length=some j/\xs[j]?=some v/\j<xs.length/\-(xs.length:Int)<=i/\i<xs.length:=by
 unfold atI at h
 cases e:ixN xs.length i with
 |none=>rw[e]at h;cases h
 |some j=>
  rw[e]at h
  obtain⟨h1,h2,h3,h4⟩:=Qjl e
  exact⟨j,h1,h,h2,h3,h4⟩
theorem Zw{α:Type}{xs:List α}{j:Nat}{v:α}(h:xs[j]?=some v):atI xs (j:Int)=some v:=by
 have hj:j<xs.length:=(jW.mp h).1
 have e:ixN xs.length (j:Int)=some j:=by
  unfold ixN
  rw[if_pos Om,if_pos Om];simp
 unfold atI;rw[e];exact h
theorem Qfv{α:Type}(xs:List α)(v:α):atI (xs++[v]) (-1)=some v:=by
 have hl:(xs++[v]).length=xs.length+1:=by simp
 have e:ixN (xs++[v]).length (-1)=some xs.length:=by
  unfold ixN
  rw[hl,if_neg Dc,if_pos Om]
  congr 1
  lia
 unfold atI
 rw[e]
 show(xs++[v])[xs.length]?=some v
 simp
def Qrk(b:Expr):Prop:=∀o i,subscripted b false o i=operate [o,i] (getItem o i)
def IxR(X:Cx)(r:R2):Prop :=
 ∀(value slice:Expr) (pins:List (Addr×Obj)) (s:Shared) (σ:St) (H:Hp) (x y:V) (v u:Value) (Q:VK),Inv X pins σ H s->RelV x v->RelV y u->r x y H Q ->
  subscripted slice false v u=operate [v,u] (getItem v u)->wpAny (model X.prog X.w) X.A (subscriptTail value slice v u) (EP X pins σ Q) X.xe s
def MtR(X:Cx)(id:String)(r:V->List V->Hp->VK->Prop):Prop :=
 ∀(pins:List (Addr×Obj)) (s:Shared) (σ:St) (H:Hp) (x:V) (xs:List V) (v:Value) (us:List Value) (Q:VK),Inv X pins σ H s->RelV x v->Vals xs us->r x xs H Q ->
  wpAny (model X.prog X.w) X.A (call (.builtin id) (v::us)) (EP X pins σ Q) X.xe s
section
variable{X:Cx}{a b:Expr}{ta tb:TE}{pos:Pos}
theorem Qo{r:R2}(hr:IxR X r)(ha:PE X a ta)(hb:PE X b tb)(hs:Qrk b):PE X (.Subscript a b pos) (tOp r ta tb):=by
 intro pins s σ H Q I h
 exact Subscript_ (binT ha hb I h fun v u s2 x y H2 I2 rx ry q=>hr a b pins s2 σ H2 x y v u Q I2 rx ry q (hs _ _))
def rIxL(K:Fg):R2:=fun x y H Q=>∃p xs i v,x=.ref p/\y=.int i/\SqL K H p xs/\atI xs i=some v/\Q v H
inductive rIxT(K:Fg)(x y:V)(H:Hp)(Q:VK):Prop|mk(p:Addr)(xs:List V)(i:Int)(v:V)(a:x=.ref p)(b:y=.int i)(c:SqT K H p xs)(d:atI xs i=some v)(q:Q v H):rIxT K x y H Q
theorem Qw:IxR X (rIxL X.K):=by
 intro value slice pins s σ H x y v u Q I rx ry h hs
 obtain⟨p,xs,i,z,rfl,rfl,hq,he,q⟩:=h
 cases rx
 obtain⟨t,rfl⟩:=ry
 obtain⟨its,r,pl,hz⟩:=I.list hq
 obtain⟨j,h1,h2,h3,h4,h5⟩:=Qeq he
 obtain⟨w,ew,rw'⟩:=r.get h2
 have hl:=r.length
 have hn:=Qcy
 have fin:EP X pins σ Q w s:=⟨z,H,I,rw',q⟩
 by_cases h0:0<=i
 .have hj:i.toNat=j:=by
   rw[seqIndex_of h0 h5]at h1
   exact Option.some.inj h1
  exact item_listR pl.isList h0 Om (by rw[hj];simpa using ew) fin hs
 .have hj:(i+(its.toArray.size:Int)).toNat=j:=by
   rw[seqIndex_neg Om h4]at h1
   rw[kX,<-hl]
   exact Option.some.inj h1
  exact subscriptTail_builtinR (x:=w) pl.isList.typeIs slot_list_getitem.lookup
   (wpAny_getItem_list_neg (Q:=fun r s'=>r=w/\EP X pins σ Q r s') pl.isList Om (by rw[kX]<;>lia) Om (by rw[hj];simpa using ew) ⟨rfl,fin⟩) hs
theorem Qu:IxR X (rIxT X.K):=by
 intro value slice pins s σ H x y v u Q I rx ry h hs
 obtain⟨p,xs,i,z,rfl,rfl,hq,he,q⟩:=h
 cases rx
 obtain⟨t,rfl⟩:=ry
 obtain⟨its,r,pl,hz⟩:=I.tuple hq
 obtain⟨j,h1,h2,h3,h4,h5⟩:=Qeq he
 obtain⟨w,ew,rw'⟩:=r.get h2
 have hl:=r.length
 have hn:=Qcy
 have fin:EP X pins σ Q w s:=⟨z,H,I,rw',q⟩
 exact subscriptTail_builtinR (x:=w) pl.typeIs slot_tuple_getitem.lookup
  (getItem_tuple (j:=j) (Q:=fun r s'=>r=w/\EP X pins σ Q r s') pl Om Om (by rw[kX,<-hl];exact h1) (by simpa using ew) ⟨rfl,fin⟩) hs
theorem Qhe(its:List Value)(n j:Nat)(u:Value):Obj.mapSeq (·.setIfInBounds j u) { cls:=.type "list",data:=.seq its.toArray n }={ cls:=.type "list",data:=.seq (its.set j u).toArray n }:=by
 simp[Obj.mapSeq]
theorem Inv.lst{pins:List (Addr×Obj)}{σ:St}{H:Hp}{s:Shared}{p:Addr}{xs:List V}(I:Inv X pins σ H s)(h:H p=some (.lst xs)) :
  ∃(its:List Value) (n:Nat),Vals xs its/\s.heap.get? p=some { cls:=.type "list",data:=.seq its.toArray n }/\xs.length<=sizeLine:=by
 obtain⟨z,its,n,r,e⟩:=I.hok p _ h
 exact⟨its,n,r,e,z⟩
theorem Inv.lstUpd{pins:List (Addr×Obj)}{σ:St}{H:Hp}{s:Shared}{p:Addr}{xs ys:List V}{its its':List Value}{n n':Nat}{f:Obj->Obj}(I:Inv X pins σ H s)(h:H p=some (.lst xs))
  (ho:s.heap.get? p=some { cls:=.type "list",data:=.seq its.toArray n }) (hf:f { cls:=.type "list",data:=.seq its.toArray n }={ cls:=.type "list",data:=.seq its'.toArray n' }) (r:Vals ys its') (hz:ys.length<=sizeLine) (t:Nat) :
  Inv X pins σ (upd H p (.lst ys)) { s with heap:=s.heap.update p f,toks:=t }:=by
 have e:(s.heap.update p f).get? p=some { cls:=.type "list",data:=.seq its'.toArray n' }:=by
  rw[Heap.get?_update_self f ho (by rw[hf]<;>rfl),hf]
 refine I.write (x:=p) (e:=p) (by rw[h];trivial) (.inl rfl) (fun b u hb q=>(Heap.get?_update_other _ _ (Ne.symm hb)).trans q) ⟨_,e⟩ ?_
 exact⟨hz,its',n',r,e⟩
def rSetL:V->V->V->Hp->(Hp->Prop)->Prop:=fun o i v H Q=>∃p xs k j,o=.ref p/\i=.int k/\H p=some (.lst xs)/\ixN xs.length k=some j/\Q (upd H p (.lst (xs.set j v)))
theorem set_list:PSet X rSetL:=by
 intro pins s σ H o i v ov iv u Q I ro ri rv h
 obtain⟨p,xs,k,j,rfl,rfl,hp,hj,q⟩:=h
 cases ro
 obtain⟨t,rfl⟩:=ri
 obtain⟨its,n,r,ho,hz⟩:=I.lst hp
 obtain⟨h1,h2,h3,h4⟩:=Qjl hj
 have hl:=r.length
 have hn:=Qcy
 have I':Inv X pins σ (upd H p (.lst (xs.set j v))) { s with heap:=s.heap.update p (Obj.mapSeq (·.setIfInBounds j u)) } :=
  I.lstUpd hp ho (Qhe its n j u) (r.set rv j) (by rw[List.length_set];exact hz) s.toks
 by_cases h0:0<=k
 .have hk:k.toNat=j:=by
   rw[seqIndex_of h0 h4]at h1
   exact Option.some.inj h1
  exact PySem.W.ki_setAt ho h0 Om (by rw[kX,<-hl];exact h4) (by rw[hk];exact⟨_,I',q⟩)
 .have hk:(k+(its.toArray.size:Int)).toNat=j:=by
   rw[seqIndex_neg Om h3]at h1
   rw[kX,<-hl]
   exact Option.some.inj h1
  exact PySem.W.ki_setBack ho Om (by rw[kX,<-hl];exact h3) Om (by rw[hk];exact⟨_,I',q⟩)
theorem Wp(i:Int)(n d:Nat):max 0 (min (if i<0 then i+(n:Int)else i) (n:Int))=((HT.sIx n d (some i):Nat):Int):=by
 rw[<-HT.clip_eq]
 by_cases h:i<0
 .rw[if_pos h,if_pos h,Int.min_eq_left (by have:=Int.add_le_add_right (Int.le_of_lt h) (n:Int);rwa [jZe]at this),Int.max_comm]
 .rw[if_neg h,if_neg h,HT.min_cast i n h,Int.max_eq_right (Int.natCast_nonneg _)]
theorem Qde(lo hi:Option Int)(n:Nat):(sliceBounds lo hi none n).1=((HT.sIx n 0 lo:Nat):Int)/\(sliceBounds lo hi none n).2.1=((HT.sIx n n hi:Nat):Int)/\(sliceBounds lo hi none n).2.2=1:=by
 refine⟨?_,?_,rfl⟩
 .cases lo with
  |none=>rfl
  |some i=>exact Wp i n 0
 .cases hi with
  |none=>rfl
  |some i=>exact Wp i n n
theorem Qbo(its:List Value)(lo hi:Option Int):slicePick its.toArray lo hi none=((its.drop (HT.sIx its.length 0 lo)).take (HT.sIx its.length its.length hi-HT.sIx its.length 0 lo)).toArray:=by
 obtain⟨h1,h2,h3⟩:=Qde lo hi its.toArray.size
 unfold slicePick
 rw[h1,h2,h3]
 simp only[sliceRange_one,pick_run,kX]<;>rfl
def rSlL(K:Fg):V->Option Int->Option Int->Hp->VK->Prop:=fun x lo hi H Q=>∃a xs,x=.ref a/\SqL K H a xs/\∀p,H p=none->Q (.ref p) (upd H p (.lst (cutV xs lo hi)))
theorem Qer:SlR X (rSlL X.K):=by
 intro pins s σ H x v vl vu lo hi sl Q I rx hs pl pu h
 obtain⟨a,xs,rfl,hx,q⟩:=h
 cases rx
 obtain⟨its,r,ht,hz⟩:=I.list hx
 have hlen:=r.length
 refine⟨"list",_,slot_list_getitem.lookup,ht.isList.typeIs,?_⟩
 refine wpAny_getItem_list_slice ht.isList hs pl pu .none (by simp) ?_ (by rw[kX]<;>lia)
 rw[Qbo,<-hlen]
 refine⟨.ref s.heap.objs.size,_,I.laid (t':=s.toks) (o:=.lst (cutV xs lo hi)) (fun b ob q=>jK _ q) (jY _) ?_,rfl,q _ (I.hok.fresh (jY _))⟩
 exact⟨jQb (Qep xs lo hi) hz,_,0,(r.drop (HT.sIx xs.length 0 lo)).take (HT.sIx xs.length xs.length hi-HT.sIx xs.length 0 lo),yJ _ rfl⟩
theorem Qm:Zv X (.builtin "len") (fun xs H Q=>∃p ys,xs=[.ref p]/\(SqL X.K H p ys\/SqT X.K H p ys)/\Q (.int ys.length) H):=by
 intro pins s σ H xs us Q I r h
 obtain⟨p,ys,rfl,hq,q⟩:=h
 obtain⟨u,rfl,rx⟩:=vals1 r
 cases rx
 have hn:=Qcy
 rcases hq with hq | hq
 .obtain⟨its,r',pl,hz⟩:=I.list hq
  have hlen:=r'.length
  exact Calls.call_len_list pl.isList (by simp only[kX]<;>lia) ⟨.int ys.length,H,I.tok _,⟨s.toks+1,by rw[kX,hlen]⟩,q⟩
 .obtain⟨its,r',pl,hz⟩:=I.tuple hq
  have hlen:=r'.length
  exact len_tuple pl (by simp only[kX]<;>lia) ⟨.int ys.length,H,I.tok _,⟨s.toks+1,by rw[kX,hlen]⟩,q⟩
theorem Xv:Zv X (.type "list") (fun xs H Q=>∃p ys,xs=[.ref p]/\(SqL X.K H p ys\/SqT X.K H p ys)/\∀l,H l=none->Q (.ref l) (upd H l (.lst ys))):=by
 intro pins s σ H xs us Q I r h
 obtain⟨p,ys,rfl,hq,q⟩:=h
 obtain⟨u,rfl,rx⟩:=vals1 r
 cases rx
 have fin:∀(its:List Value),Vals ys its->ys.length<=sizeLine->∀(h':Heap) (c':Nat),(∀b o',s.heap.get? b=some o'->h'.get? b=some o') ->
   h'.get? s.heap.objs.size=some { cls:=.type "list",dict:=none,data:=.seq its.toArray c',slots:=#[] }->EP X pins σ Q (.ref s.heap.objs.size) { s with heap:=h' }:=fun its r' hz h' c' kp e=>
  ⟨.ref s.heap.objs.size,_,I.laid (t':=s.toks) kp (jY _) (show ObjOk X.prog X.w _ h' _ (.lst ys)from⟨hz,its,c',r',e⟩),rfl,q _ (I.hok.fresh (jY _))⟩
 rcases hq with hq | hq
 .obtain⟨its,r',pl,hz⟩:=I.list hq
  have hlen:=r'.length
  obtain⟨o,ho,hc,n,hd⟩:=pl.isList
  exact call_list_seq p (.inl rfl) ho hc hd (fun h' c' kp e=>fin its r' hz h' c' kp e) (by simp only[kX]<;>lia)
 .obtain⟨its,r',pl,hz⟩:=I.tuple hq
  have hlen:=r'.length
  obtain⟨o,ho,hc,n,hd⟩:=pl
  exact call_list_seq p (.inr rfl) ho hc hd (fun h' c' kp e=>fin its r' hz h' c' kp e) (by simp only[kX]<;>lia)
theorem Xe:Zv X (.type "tuple") (fun xs H Q=>∃p ys,xs=[.ref p]/\((SqL X.K H p ys/\∀l,H l=none->Q (.ref l) (upd H l (.tup ys)))\/(SqT X.K H p ys/\Q (.ref p) H))):=by
 intro pins s σ H xs us Q I r h
 obtain⟨p,ys,rfl,h⟩:=h
 obtain⟨u,rfl,rx⟩:=vals1 r
 cases rx
 rcases h with⟨hq,q⟩ | ⟨hq,q⟩
 .obtain⟨its,r',pl,hz⟩:=I.list hq
  have hlen:=r'.length
  refine call_tuple_list pl.isList (fun h' kp=>?_) (by simp only[kX]<;>lia)
  have I1:Inv X pins σ H { s with heap:=h' }:=I.kept (t':=s.toks) kp
  have I2:Inv X pins σ (upd H h'.objs.size (.tup ys)) { s with heap:=h'.push { cls:=.type "tuple",data:=.seq its.toArray } } :=
   I1.laid (t':=s.toks) (fun b o e=>jK _ e) (jY _) (show ObjOk X.prog X.w _ _ _ (.tup ys)from⟨hz,its,r',IsTup.new _ _⟩)
  exact⟨.ref h'.objs.size,_,I2,rfl,q _ (I1.hok.fresh (jY _))⟩
 .obtain⟨its,r',pl,hz⟩:=I.tuple hq
  exact call_tuple_same pl ⟨.ref p,H,I,rfl,q⟩
def tyV(K:Fg)(T:String)(x:V)(H:Hp):Prop:=match x with
 |.str _=>T="str"
 |.int _=>T="int"
 |.ref p=>(T="list"/\∃xs,SqL K H p xs)\/(T="tuple"/\∃o,K.lookup p=some o/\o.cls=.type "tuple"/\o.dict=none) \/
   (T="dict"/\((∃kvs,H p=some (.dK kvs))\/∃kvs,H p=some (.dT kvs)))\/(T="set"/\∃S n,H p=some (.set S n))
 |_=>False
theorem Qpq{pins:List (Addr×Obj)}{σ:St}{H:Hp}{s:Shared}{T:String}{x:V}{v:Value}(I:Inv X pins σ H s)(r:RelV x v)(ty:tyV X.K T x H) :
  s.TypeIs v T/\∀a,v=.ref a->∃ob,s.heap.get? a=some ob/\ob.dict=none:=by
 cases x with
 |str z=>
  obtain⟨t,rfl⟩:=r
  cases(show T="str" from ty)
  exact⟨typeIs_str s z t,fun _ e=>nomatch e⟩
 |int i=>
  obtain⟨t,rfl⟩:=r
  cases(show T="int" from ty)
  exact⟨typeIs_int s i t,fun _ e=>nomatch e⟩
 |ref p=>
  cases r
  rcases ty with⟨rfl,xs,hq⟩ | ⟨rfl,o,hk,hc,hd⟩ | ⟨rfl,hk⟩ | ⟨rfl,S,n,hk⟩
  .obtain⟨its,_,pl,_⟩:=I.list hq
   refine⟨pl.isList.typeIs,fun a e=>?_⟩
   cases e
   obtain⟨o,n,e,c,hd,_⟩:=pl
   exact⟨o,e,hd⟩
  .refine⟨⟨o,I.kIn p o hk,hc⟩,fun a e=>?_⟩
   cases e
   exact⟨o,I.kIn _ o hk,hd⟩
  .have z:∃o,s.heap.get? p=some o/\o.ExactDict:=by
    rcases hk with⟨kvs,hk⟩ | ⟨kvs,hk⟩
    .obtain⟨_,_,_,_,o,_,_,e,ex,_⟩:=I.hok p _ hk
     exact⟨o,e,ex⟩
    .obtain⟨_,_,_,_,o,_,_,e,ex,_⟩:=I.hok p _ hk
     exact⟨o,e,ex⟩
   obtain⟨o,e,ex⟩:=z
   refine⟨⟨o,e,ex.1⟩,fun a e2=>?_⟩
   cases e2
   exact⟨o,e,ex.2.1⟩
  .obtain⟨o,_,_,_,e,ex,_⟩:=I.hok p _ hk
   refine⟨⟨o,e,ex.1⟩,fun a e2=>?_⟩
   cases e2
   exact⟨o,e,ex.2.1⟩
 |_=>exact False.elim ty
def tBM0(K:Fg)(T:String)(r:V->List V->Hp->VK->Prop)(to:TE):TE:=fun σ H Q=>to σ H fun x H1=>tyV K T x H1/\r x [] H1 Q
def tBM(K:Fg)(T:String)(r:V->List V->Hp->VK->Prop)(to:TE)(t:TA):TE:=fun σ H Q=>to σ H fun x H1=>tyV K T x H1/\t σ H1 fun xs H2=>r x xs H2 Q
variable{o e:Expr}{es:List Expr}{to:TE}{t:TA}{name:Str}{apos cpos:Pos}{T id:String}{r:V->List V->Hp->VK->Prop}
theorem pe_bm0(pa:PlainAttrs T)(slot:Slot T name id)(hty:typeOf (.builtin id)=pure (.type "method_descriptor"))(hm:MtR X id r)(ho:PE X o to)
  (hbase:autoParam (attributeBase o name X.env (eval o X.env)=eval o X.env) L2.aRfl._auto_1) (hline:autoParam ((apos.endLine == cpos.line)=true) L2.aRfl._auto_1):PE X (.Call (.Attribute o name apos) [] [] cpos) (tBM0 X.K T r to):=by
 intro pins s σ H Q I h
 refine wpAny_Call_method0_late hbase hline (thn (ho pins s σ H _ I h) fun v s1 hqP=>?_)
 obtain⟨x,H1,I1,r1,ty,q1⟩:=hqP
 obtain⟨h1,h2⟩:=Qpq I1 r1 ty
 exact⟨T,id,pa,slot,hty,h1,h2,Calls.callWith_builtin rfl (PySem.evalArgs_none (hm pins s1 σ H1 x [] v [] Q I1 r1 .nil q1))⟩
theorem Vw(pa:PlainAttrs T)(slot:Slot T name id)(hty:typeOf (.builtin id)=pure (.type "method_descriptor"))(hm:MtR X id r)(ho:PE X o to)(ha:PA X (e::es) t)
  (hbase:autoParam (attributeBase o name X.env (eval o X.env)=eval o X.env) L2.aRfl._auto_1)
  (hfew:((backTo cpos (starEach (e::es) X.env)).all (fun x=>!x.1)&&(backToKw cpos (keywordEach [] X.env)).all (fun x=>x.1.isSome)
   && decide ((e::es).length+([]:List Keyword).length+(if ([]:List Keyword).isEmpty then 0 else 1)<30))=true:=by rfl)
  (hline:autoParam ((apos.endLine == cpos.line)=true) L2.aRfl._auto_1) (hs:autoParam (starEach (e::es) X.env=(false,eval e X.env)::starEach es X.env) L2.aRfl._auto_1) (hplain:autoParam ((backTo cpos (starEach es X.env)).any (·.1)=false) L2.aRfl._auto_1) :
  PE X (.Call (.Attribute o name apos) (e::es) [] cpos) (tBM X.K T r to t):=by
 intro pins s σ H Q I h
 refine wpAny_Call_method_late hbase hfew hline rfl (thn (ho pins s σ H _ I h) fun v s1 hqP=>?_)
 obtain⟨x,H1,I1,r1,ty,q1⟩:=hqP
 obtain⟨h1,h2⟩:=Qpq I1 r1 ty
 refine⟨T,id,pa,slot,hty,h1,h2,?_⟩
 have hA:=ha cpos pins s1 σ H1 _ I1 q1
 rw[hs]at hA⊢
 refine Calls.callWith_builtin (by show(false||(backTo cpos (starEach es X.env)).any (·.1))=false;rw[hplain]<;>rfl) (Calls.evalArgs_plain ?_)
 exact thn hA fun us s2 ⟨vs,H2,I2,r2,q2⟩=>hm pins s2 σ H2 x vs v us Q I2 r1 r2 q2
end
def MtM(X:Cx)(id:String)(r:V->List V->Hp->VK->Prop):Prop :=
 ∀(pins:List (Addr×Obj)) (s:Shared) (σ:St) (H:Hp) (x:V) (xs:List V) (v:Value) (us:List Value) (Q:VK),Inv X pins σ H s->RelV x v->Vals xs us->r x xs H Q ->
  wpAny (model X.prog X.w) X.A (call (.builtin id) (v::us)) (EP X pins σ Q) X.xe s
theorem Vals.one{x:V}{us:List Value}(h:Vals [x] us):∃u,us=[u]/\RelV x u:=by
 cases h with
 |cons r t=>cases t;exact⟨_,rfl,r⟩
theorem Vals.two{x y:V}{us:List Value}(h:Vals [x,y] us):∃u v,us=[u,v]/\RelV x u/\RelV y v:=by
 cases h with
 |cons r t=>
  cases t with
  |cons q t=>cases t;exact⟨_,_,rfl,r,q⟩
theorem Vals.rep{xs:List V}{us:List Value}(h:Vals xs us):∀k:Nat,Vals (List.replicate k xs).flatten (List.replicate k us).flatten
 |0=>.nil
 |k+1=>by
  rw[jYf,jYf,kQf,kQf]
  exact Vals.append h (Vals.rep h k)
theorem foldl_rep(its:List Value):∀(k:Nat) (acc:List Value),
  List.foldl (fun x1 x2=>x1++x2) acc.toArray (List.replicate k its.toArray)=(acc++(List.replicate k its).flatten).toArray
 |0,acc=>by simp
 |k+1,acc=>by
  have e:acc.toArray++its.toArray=(acc++its).toArray:=by simp
  have e2:(acc++its)++(List.replicate k its).flatten=acc++(List.replicate (k+1) its).flatten:=by
   rw[jYf,kQf,List.append_assoc]
  rw[<-e2,<-foldl_rep its k (acc++its),<-e,jYf,kQb]
section
variable{X:Cx}{pins:List (Addr×Obj)}{σ:St}{H:Hp}{s:Shared}{l:Addr}{xs ys:List V}
theorem Inv.lset{its its':List Value}{n:Nat}{f:Array Value->Array Value}{t':Nat}(I:Inv X pins σ H s)(hH:H l=some (.lst xs))
  (e:s.heap.get? l=some { cls:=.type "list",data:=.seq its.toArray n }) (hf:f its.toArray=its'.toArray) (hv:Vals ys its') (hz:ys.length<=sizeLine) :
  Inv X pins σ (upd H l (.lst ys)) { s with heap:=s.heap.update l (Obj.mapSeq f),toks:=t' }:=by
 have q:=PySem.IsL.update e f
 rw[hf]at q
 refine I.write (x:=l) (e:=l) (by rw[hH];exact trivial) (.inl rfl) (fun b' u hb hu=>(Heap.get?_update_other s.heap (Obj.mapSeq f) (Ne.symm hb)).trans hu) ⟨_,q⟩ ?_
 exact⟨hz,its',_,hv,q⟩
theorem Inv.lnew{its:List Value}{t':Nat}(I:Inv X pins σ H s)(hv:Vals ys its)(hz:ys.length<=sizeLine) :
  Inv X pins σ (upd H s.heap.objs.size (.lst ys)) { s with heap:=s.heap.push { cls:=.type "list",data:=.seq its.toArray },toks:=t' } :=
 I.laid (fun _ _ q=>jK _ q) (jY _) ⟨hz,its,0,hv,yJ _ rfl⟩
theorem Inv.fresh(I:Inv X pins σ H s):H s.heap.objs.size=none:=I.hok.fresh (jY _)
theorem Inv.lstM(I:Inv X pins σ H s)(hH:H l=some (.lst xs)):xs.length<=sizeLine/\∃(its:List Value) (n:Nat),Vals xs its/\xs.length=its.length/\s.heap.get? l=some { cls:=.type "list",data:=.seq its.toArray n }:=by
 obtain⟨z,its,n,r,e⟩:=I.hok l _ hH
 exact⟨z,its,n,r,r.length,e⟩
theorem Qmz{n:Nat}(h:n<=sizeLine):Builtin.List.listTooLong n=false:=by
 unfold Builtin.List.listTooLong
 exact jQe Om
end
section
variable{X:Cx}
def Qrl:V->List V->Hp->VK->Prop:=fun x vs H Q=>∃l xs y,x=.ref l/\vs=[y]/\H l=some (.lst xs)/\xs.length<sizeLine/\Q .non (upd H l (.lst (xs++[y])))
theorem Yp:MtM X "list.append" Qrl:=by
 intro pins s σ H x vs v us Q I rx rv h
 obtain⟨l,xs,y,rfl,rfl,hH,hz,q⟩:=h
 cases rx
 obtain⟨u,rfl,ru⟩:=rv.one
 obtain⟨z,its,n,r,hl,e⟩:=I.lstM hH
 refine call_meets F.slot_list_append ⟨_,e,rfl⟩ F.entry_list_append (F.args_list_append_2 _ _) (PySem.list_append l its.toArray n u (by rw[kX];lia)) ⟨e,?_⟩
 refine⟨.non,_,I.lset (its':=its++[u]) hH e (by simp) (r.append (.cons ru .nil)) ?_,rfl,q⟩
 rw[kZ,List.length_singleton]
 lia
def rCat:R2:=fun x y H Q=>∃l b xs zs,x=.ref l/\y=.ref b/\H l=some (.lst xs)/\H b=some (.lst zs)/\xs.length+zs.length<=sizeLine/\∀p,H p=none->Q (.ref p) (upd H p (.lst (xs++zs)))
theorem Qav:OpR X (binaryOp .Add) rCat:=by
 intro pins s σ H x y v u Q I rx ry h
 obtain⟨l,b,xs,zs,rfl,rfl,hH,hB,hz,q⟩:=h
 cases rx
 cases ry
 obtain⟨z,its,n,r,hl,e⟩:=I.lstM hH
 obtain⟨z2,its2,n2,r2,hl2,e2⟩:=I.lstM hB
 refine PySem.P.add_list e e2 ?_ (by rw[kX,kX];lia)
 have ea:its.toArray++its2.toArray=(its++its2).toArray:=by simp
 rw[ea]
 exact⟨.ref _,_,I.lnew (t':=s.toks) (r.append r2) (by rw[kZ];lia),rfl,q _ I.fresh⟩
def rRep:R2:=fun x y H Q=>∃l k xs,x=.ref l/\y=.int k/\H l=some (.lst xs)/\-(2 ^ 63)<=k/\k<2 ^ 63/\xs.length*k.toNat<=sizeLine /\
 ∀p,H p=none->Q (.ref p) (upd H p (.lst (List.replicate k.toNat xs).flatten))
theorem len_rep{α:Type}(xs:List α)(k:Nat):(List.replicate k xs).flatten.length=k*xs.length:=by
 induction k with
 |zero=>simp
 |succ k ih=>rw[jYf,kQf,kZ,ih,Nat.succ_mul,Nat.add_comm]
theorem Wq:OpR X (binaryOp .Mult) rRep:=by
 intro pins s σ H x y v u Q I rx ry h
 obtain⟨l,k,xs,rfl,rfl,hH,h1,h2,hz,q⟩:=h
 cases rx
 obtain⟨t,rfl⟩:=ry
 obtain⟨z,its,n,r,hl,e⟩:=I.lstM hH
 have hlen:its.toArray.size*k.toNat<=sizeLine:=by rw[kX,<-hl];exact hz
 have hcap:¬its.toArray.size*k.toNat > (2 ^ 63-1) / 8:=by
  have:(sizeLine:Nat)<=(2 ^ 63-1) / 8:=Dc
  lia
 have hfit:¬(!Builtin.List.listFitsIndex k)=true:=by
  rw[fitsIndex_both h1 h2]
  exact zW
 have hlong:¬Builtin.List.listTooLong (its.toArray.size*k.toNat)=true:=by
  rw[Qmz hlen]
  exact zW
 have hnew:List.foldl (fun x1 x2=>x1++x2) #[] (List.replicate (if its.toArray.isEmpty=true then 0 else k.toNat) its.toArray)=(List.replicate k.toNat its).flatten.toArray:=by
  have f0:∀m:Nat,List.foldl (fun x1 x2=>x1++x2) #[] (List.replicate m its.toArray)=(List.replicate m its).flatten.toArray:=fun m=>by
   have:=foldl_rep its m []
   rw[List.nil_append]at this
   exact this
  rw[f0]
  cases its with
  |nil=>simp
  |cons a r'=>rw[if_neg (by simp)]
 refine wpAny_binaryOp_repeat_ref (T:="list") (U:="int") Dc ⟨_,e,rfl⟩ (fun s'=>typeIs_int s' k t) noFill_list_mul F.fills_int_mul F.slot_int_rmul repeat_list F.slot_int_index.lookup
  (call_meets F.slot_int_rmul (typeIs_int s k t) F.entry_int_rmul (F.args_int_rmul_2 _ _) (int___rmul___int_list k t l its.toArray n)
   ⟨e,rfl,⟨_,e,rfl⟩,call_meets F.slot_list_mul ⟨_,e,rfl⟩ F.entry_list_mul (F.args_list_mul_2 _ _) (AutoListH.list___mul___list_int_3 l its.toArray n k t hfit hcap hlong) ⟨e,?_⟩⟩)
 rw[hnew]
 exact⟨.ref _,_,I.lnew (t':=s.toks) (r.rep k.toNat) (by rw[len_rep,Nat.mul_comm];exact hz),rfl,q _ I.fresh⟩
end
end L2
namespace Att
open PySem PySem.W PySem.Calls PyProof.Rows
theorem Wr{P:Params}{h:Heap}:∀(ns:List Int) (vs:List Value),WellAll P h vs (ns.map WData.int)->IntsAre vs ns:=by
 intro ns
 induction ns with
 |nil=>
  intro vs w
  rw[jYb]at w
  cases w
  exact .nil
 |cons n ns ih=>
  intro vs w
  rw[yX]at w
  cases w with
  |cons a b=>
   cases a
   exact .cons _ _ (ih _ b)
theorem Qjm{l:OpenLaw}{n:Nat}(hn:l.most=some n){P:Params}{h:Heap}{args:List WData}{vals:List Value}
  (hpre:l.row.toRowW.claim.pre args=true) (hwl:WellAll P h vals args) :
  ∃a vs ns,vals=[Value.ref a]/\args=[WData.list (ns.map WData.int)]/\h.get? a=some { cls:=.type "list",data:=.seq vs.toArray }/\IntsAre vs ns/\ns.length<=n:=by
 have hsh:WShape.hasAll [] args [.list .int]=true:=(pre_splitW hpre).1
 have hc:l.pre.holds [] { args:=args }=true:=(pre_splitW hpre).2
 obtain⟨d,r,rfl,h1,h2⟩:=hasAllW_cons hsh
 obtain rfl:=hasAllW_nil h2
 obtain⟨xs,rfl,h3⟩:=hasW_list h1
 obtain⟨ns,rfl⟩:=items_int h3
 have hlen:ns.length<=n:=by
  unfold OpenLaw.pre at hc
  have h4:(WTm.not (.lt (.lit (.int (n:Int))) (.len (.arg 0)))).holds [] { args:=[.list (ns.map .int)] }=true:=by
   have h4:=(holds_andW hc).1
   rw[hn]at h4
   exact h4
  have h5:=condW_of h4 (w_not (w_lt w_lit (w_len_list (w_arg rfl))))
  rw[jQ]at h5
  refine kKa fun q=>?_
  have q':(n:Int)<((ns.length:Nat):Int):=Om
  first
   |(rw[kW q']at h5;exact absurd h5 Dc)
   |(simp at h5;lia)
 cases hwl with
 |cons w1 w2=>
  cases w2
  cases w1 with
  |list ho hall=>exact⟨_,_,ns,rfl,rfl,ho,Wr ns _ hall,hlen⟩
theorem Qjn(l:OpenLaw)(args:List WData):l.row.toRowW.claim.post args (.bool true) args=true :=
 postW_of (r:=l.row.toRowW) (X:=(true == true))
  (show WShape.has [] (.bool true) .bool=true by first | rfl | decide | simp[WShape.has,WShape.arms,WShape.armsAll])
  (show(WTm.eq .res (.lit (.bool true))).value [] { args:=args,res:=some (.bool true),after:=args }=some (.bool (true == true))from w_eq_bool (w_res rfl) w_lit) rfl
theorem attach_call{l:OpenLaw}{n:Nat}{q:Program}{loose:List Str}{XP:(Str->Option Value)->Heap->Prop}{YP:World->Heap->Prop}{d:DefRec}
  (hn:l.most=some n) (hdf:d.params.defaults=[])
  (call:∀(w:World) (s₀ s₁:Shared) (mg mb:Str->Option Value) (fa:Addr) (o:Obj) (pm cd doc:Value) (a:Addr) (vs:List Value) (ns:List Int),
   Ground q loose [] XP w s₀ mg mb s₁.heap->YP w s₁.heap ->
   s₁.heap.get? fa=some o->o.data=.func (docDef d.name d.params d.body d.scope pm cd doc)->s₁.heap.CodeRec cd d.name->mg d.name=some (.ref fa) ->
   s₁.heap.get? a=some { cls:=.type "list",data:=.seq vs.toArray }->IntsAre vs ns->ns.length<=n->s₁.gens=#[] ->
   codeAny (model l.prog w) callerA (.call (.ref fa) ⟨[.ref a],[]⟩) (fun r s'=>r=.ok (.ret (.bool true))/\OldK s₁.heap s'.heap/\s'.os=s₁.os/\AllBare s'.gens) s₁) :
  WalkO q loose XP YP l.row.toRowW d [] (fun f vs=>PySem.call f vs):=by
 intro w s₀ s₁ mg mb G Y fa o pm cd doc dV kV ho hd hcd hD hmg hg args vals as hpre hlay hrd hwl hlo
 obtain rfl:dV=.none:=Dflts.none hD hdf
 obtain rfl:kV=.none:=Dflts.noKw hD
 obtain⟨a,vs,ns,rfl,rfl,hobj,hints,hlen⟩:=Qjm hn hpre hwl
 refine enter_call (codeAny_mono (call w s₀ s₁ mg mb fa o pm cd doc a vs ns G Y ho (fd_plain hd) hcd hmg hobj hints hlen hg) fun r s' hq=>?_)
 obtain⟨rfl,h2,h3,h4⟩:=hq
 exact⟨.inl ⟨.bool true,.bool true,[],rfl,fun _=>rfl,.bool true,Qjn l _,fun _=>⟨List.Pairwise.nil,fun _ hm=>(nomatch hm)⟩⟩,h2,h3,h4⟩
end Att
namespace L2
open PySem PySem.Spec PyProof.Rows
theorem Qdf:∀{vs:List Value} {ns:List Int},IntsAre vs ns->Vals (ns.map V.int) vs
 |_,_,.nil=>.nil
 |_,_,.cons n t h=>.cons ⟨t,rfl⟩ (Qdf h)
def Only(H:Hp):Prop:=∀b,H b=none\/∃o xs,H b=some (.frz o (.lst xs))
theorem Qna{P:Program}{w:World}{K:Fg}{mg mb:Str->Option Value}{CX:CXT}{k:Nat}{fa a:Addr}{fd:FuncData}{x:Str}{sp:Sp}{s₁:Shared}{vs:List Value}{ns:List Int}
  (KX:K.In s₁.heap) (hns:s₁.heap.Ns mainGlobals mg) (hb:s₁.heap.Ns builtinsNs mb) (hbb:∀x:Str,x≠"__name__"->mb x=bootBuiltins x) (hlim:s₁.heap.NoLimit) (hg:s₁.gens=#[])
  (ha:s₁.heap.get? a=some { cls:=.type "list",data:=.seq vs.toArray }) (hi:IntsAre vs ns) (hl:ns.length<=sizeLine) (hr:Room k callerA)
  (F:∀base:Heap,K.In base->base.Ns mainGlobals mg->FnOk P w K mg base CX k fa fd [x] sp) (hbind:∀(s:Shared) (u:Value),BindsTo s fd ⟨[u],[]⟩ [(x,u)])
  (hsp:∀H:Hp,Only H->SqL K H a (ns.map V.int)->sp [.ref a] H (fun v _=>v=.bl true) fun _ _ _=>False)
  (hCX:∀H e s',CX [] H s₁ (fun _ _ _=>False) e s'->False) :
  codeAny (model P w) callerA (.call (.ref fa) ⟨[.ref a],[]⟩) (fun r s'=>r=.ok (.ret (.bool true))/\OldK s₁.heap s'.heap/\s'.os=s₁.os/\AllBare s'.gens) s₁:=by
 have rv:=Qdf hi
 have lenV:=hi.length
 -- from an abstract heap in which nothing but the script may be tracked
 have core:∀H:Hp,Only H->SqL K H a (ns.map V.int)->HOk P w H s₁.heap->(∀b,H b≠none->b=a)->(H a≠none->K.lookup a=none) ->
   codeAny (model P w) callerA (.call (.ref fa) ⟨[.ref a],[]⟩) (fun r s'=>r=.ok (.ret (.bool true))/\OldK s₁.heap s'.heap/\s'.os=s₁.os/\AllBare s'.gens) s₁:=by
  intro H hO hS hok hA hK
  have base_of:∀{b:Addr} {o:Obj},s₁.heap.get? b=some o->H b=none->(hidT s₁.heap H).get? b=some o:=fun e n=>Qms e n
  have noA:∀{b:Addr} {o:Obj} {es:Array DictEntry} {ep:Nat},s₁.heap.get? b=some o->o.data=.dict es ep->H b=none:=fun{b o es ep} e d=>by
   cases q:H b with
   |none=>rfl
   |some u=>
    have e':b=a:=hA b (by rw[q];simp)
    subst e'
    rw[ha]at e;cases e
    have d':Data.seq vs.toArray _=Data.dict es ep:=d
    cases d'
  have nsK:∀{b:Addr} {m:Str->Option Value},s₁.heap.Ns b m->(hidT s₁.heap H).Ns b m:=fun{b m} ⟨o,es,ep,e,d,r⟩=>⟨o,es,ep,base_of e (noA e d),d,r⟩
  have hKb:K.In (hidT s₁.heap H):=fun b o e=>base_of (KX b o e) (by
   cases q:H b with
   |none=>rfl
   |some u=>
    have e':b=a:=hA b (by rw[q];simp)
    subst e'
    rw[hK (by rw[q];simp)]at e;cases e)
  have hM:Mod K mg (hidT s₁.heap H):=⟨hKb,nsK hns,⟨mb,nsK hb,hbb⟩,let ⟨mc,h1,h2⟩:=hlim;⟨mc,nsK h1,h2⟩⟩
  have e0:Env0 P w K mg (hidT s₁.heap H) callerA [] s₁ H:=⟨rfl,hM,fun b o e=>Qrb e,Nat.le_of_eq (Qiu _ _),trivial,fun b hb=>absurd (show b∈([]:List Addr)from hb) (by simp),hok,.of_eq hg⟩
  refine codeAny_mono ((F _ hKb (nsK hns)).run callerA [] s₁ H ⟨[.ref a],[]⟩ [.ref a] [.ref a] _ _ hr e0 (hbind s₁ (.ref a)) (.cons rfl .nil) (hsp H hO hS)) fun r s' h=>?_
  cases r with
  |error e=>exact(hCX H e s' h).elim
  |ok fl=>
   cases fl with
   |next=>exact False.elim h
   |brk=>exact False.elim h
   |cont=>exact False.elim h
   |ret u=>
    obtain⟨v,H',os,bare,un,hok',r',q⟩:=h
    have q':v=.bl true:=q
    subst q'
    obtain rfl:u=Value.bool true:=r'
    refine⟨rfl,OldK.of_keep fun b o e=>?_,os,bare⟩
    cases q:H b with
    |none=>exact un.keep b o e q (by intro z;exact absurd (show b∈([]:List Addr)from z) (by simp)) (by simp)
    |some u=>
     rcases hO b with z | ⟨ob,xs,z⟩
     .rw[q]at z;cases z
     .have z2:=un.frzs b ob _ z
      obtain⟨e1,_⟩:=hok b _ z
      obtain⟨e2,_⟩:=hok' b _ z2
      rw[e]at e1;cases e1
      exact e2
 cases hk:K.lookup a with
 |some o=>
  -- the script is one of the module's own objects
  have e:=KX a o hk
  rw[ha]at e
  cases e
  refine core (fun _=>none) (fun _=>.inl rfl) (.inr ⟨_,vs.toArray,_,hk,rfl,rfl,rfl,by rw[kX,lenV];exact hl,by simpa using rv⟩) (fun b u z=>by have z':(none:Option HO)=some u:=z;cases z') (fun b z=>absurd rfl z) fun z=>absurd rfl z
 |none=>
  refine core (fun b=>if b=a then some (.frz { cls:=.type "list",data:=.seq vs.toArray } (.lst (ns.map V.int)))else none) (fun b=>?_) (.inl (.inr ⟨{ cls:=.type "list",data:=.seq vs.toArray },if_pos rfl⟩)) (fun b u z=>?_) (fun b z=>?_) fun _=>hk
  .by_cases hb:b=a
   .exact .inr ⟨_,_,if_pos hb⟩
   .exact .inl (if_neg hb)
  .by_cases hb:b=a
   .have z':=(if_pos hb).symm.trans z
    cases z'
    subst hb
    exact⟨ha,by rw[jQ];exact hl,vs,_,rv,ha⟩
   .have z':=(if_neg hb).symm.trans z
    cases z'
  .by_cases hb:b=a
   .exact hb
   .exact absurd (if_neg hb) z
abbrev KOf{K:Fg}{h:Heap}(_:K.In h):Fg:=K
theorem Qjo{l:PySem.W.OpenLaw}{n k:Nat}{q:Program}{loose:List Str}{XP:(Str->Option Value)->Heap->Prop}{YP:World->Heap->Prop}{d:DefRec}{K:Params->Fg}{CX:World->CXT}{sp:World->Sp}{x:Str}
  (hn:l.most=some n) (hn2:n<=sizeLine) (hdf:d.params.defaults=[]) (hr:Room k callerA)
  (hY:∀(w:World) (h:Heap),YP w h->(K w.params).In h)
  (F:∀(w:World) (mg:Str->Option Value) (fa:Addr) (h:Heap),(K w.params).In h->h.Ns mainGlobals mg->mg d.name=some (.ref fa) ->
   ∃fd:FuncData,(∀(s:Shared) (u:Value),BindsTo s fd ⟨[u],[]⟩ [(x,u)]) /\
    ∀base:Heap,(K w.params).In base->base.Ns mainGlobals mg->FnOk l.prog w (K w.params) mg base (CX w) k fa fd [x] (sp w))
  (hsp:∀(w:World) (H:Hp) (a:Addr) (ns:List Int),ns.length<=n->Only H->SqL (K w.params) H a (ns.map V.int)->sp w [.ref a] H (fun v _=>v=.bl true) fun _ _ _=>False)
  (hCX:∀(w:World) (H:Hp) (s:Shared) (e:Value) (s':Shared),CX w [] H s (fun _ _ _=>False) e s'->False) :
  PySem.W.WalkO q loose XP YP l.row.toRowW d [] (fun f vs=>PySem.call f vs):=by
 refine Att.attach_call hn hdf fun w s₀ s₁ mg mb fa o pm cd doc a vs ns G Y ho hd hcd hmg hobj hints hlen hg=>?_
 have KX:=hY w _ Y
 obtain⟨fd,hb,hF⟩:=F w mg fa _ KX G.T.g hmg
 exact Qna KX G.T.g G.T.b G.T.builtins G.T.nolimit hg hobj hints (jQb hlen hn2) hr hF hb (fun H hO hS=>hsp w H a ns hlen hO hS) fun H e s'=>hCX w H s₁ e s'
end L2
namespace L2
open PySem PySem.Spec PyProof.Rows
def inClass(s:Stmt)(j:Nat):Stmt:=match s with
 |.ClassDef _ _ _ body _ _ _ _ _ _ _=>body.getD j (.Pass ⟨0,0,0,0⟩)
 |_=>.Pass ⟨0,0,0,0⟩
def Xb(s:Stmt):Arguments:=match s with
 |.FunctionDef _ a _ _ _ _ _ _ _ _=>a
 |_=>{ posonlyargs:=[],args:=[],vararg:=none,kwonlyargs:=[],kw_defaults:=[],kwarg:=none,defaults:=[] }
def Xa(s:Stmt):List Stmt:=match s with
 |.FunctionDef _ _ b _ _ _ _ _ _ _=>b
 |_=>[]
def Qg(s:Stmt):Scope:=match s with
 |.FunctionDef _ _ _ _ _ _ sc _ _ _=>sc
 |_=>{ kind:=.function,names:=[],isGenerator:=false,isCoroutine:=false }
abbrev CX0:CXT:=fun _ _ _ _ _ _=>False
abbrev E0:XK:=fun _ _ _=>False
theorem Yq{X:Cx}:Wo CX0 X E0:=fun _ _ _ _ _ _ _ h=>h.elim
structure Fun(K:Fg)(x qual:Str)(st:Stmt)(f:Addr)(fd:FuncData):Prop where
 ex:∃(oc:Value) (od:Option Addr) (kV doc pm:Value) (an:Option Addr) (cdv ct:Value) (osl:Array (Option Value)),
  fd=PySem.W.fnOf x qual (Xb st) (Xa st) (Qg st) .none kV doc pm an cdv ct/\K.lookup f=some ⟨oc,od,.func fd,osl⟩/\PySem.W.codeIn K cdv qual=true
 kp:PySem.W.keepIn K (.ref f)=true
section
variable{P:Program}{w:World}{K:Fg}{mg:Str->Option Value}{base:Heap}
theorem Fun.ok{x qual:Str}{st:Stmt}{f:Addr}{fd:FuncData}{N ps:List Str}{k:Nat}{sp:Sp}(F:Fun K x qual st f fd)(S:FnScope N ps (Qg st))(len:∀vs H Q E,sp vs H Q E->vs.length=ps.length)
  (hbody:∀(cdv:Value) (A:Around) (outer:List Env) (s:Shared) (H:Hp) (vs:List V) (Q:VK) (E:XK),Room k (A.deeper (envOfC qual (Qg st) s.heap.objs.size f cdv))->sp vs H Q E ->
   ∃t,PSs (cxOf CX0 P w K mg base N qual (Qg st) f cdv A outer s H E).nox (Xa st) t/\t { nx:=fun _ H'=>Q .non H',rt:=Q } (start N vs) H):FnOk P w K mg base CX0 (k+1) f fd ps sp:=by
 obtain⟨oc,od,kV,doc,pm,an,cdv,ct,osl,rfl,lk,hcd⟩:=F.ex
 refine fn_of lk hcd S len fun A outer s H vs Q E hr hsp=>?_
 obtain⟨t,h,q⟩:=hbody cdv A outer s H vs Q E hr hsp
 exact⟨t,h.nox,q⟩
theorem Fun.binds{x qual:Str}{st:Stmt}{f:Addr}{fd:FuncData}{ps:List Str}(F:Fun K x qual st f fd)
  (h:∀(kV doc pm:Value) (an:Option Addr) (cdv ct:Value) (us:List Value),us.length=ps.length->bindArgs (PySem.W.fnOf x qual (Xb st) (Xa st) (Qg st) .none kV doc pm an cdv ct) ⟨us,[]⟩=pure (ps.zip us)):Binds K fd ps []:=by
 obtain⟨oc,od,kV,doc,pm,an,cdv,ct,osl,rfl,lk,hcd⟩:=F.ex
 exact .all (h kV doc pm an cdv ct)
theorem Yk{x qual:Str}{st:Stmt}{f:Addr}{oc:Value}{od an:Option Addr}{osl:Array (Option Value)}{kV doc pm cdv ct:Value}(l:K.lookup f=some ⟨oc,od,.func (PySem.W.fnOf x qual (Xb st) (Xa st) (Qg st) .none kV doc pm an cdv ct),osl⟩)
  (c:PySem.W.codeIn K cdv qual=true) (k:PySem.W.keepIn K (.ref f)=true):Fun K x qual st f (PySem.W.fnOf x qual (Xb st) (Xa st) (Qg st) .none kV doc pm an cdv ct):=⟨⟨oc,od,kV,doc,pm,an,cdv,ct,osl,rfl,l,c⟩,k⟩
end
theorem hu_of{A:Around}{k:Nat}(hr:Room k A):A.units+1<cLine:=zQ (zZ (by decide:1<=64) _) hr.units
section
variable{X:Cx}
theorem pv(i:Nat){x:Str}{pos:Pos}(hN:autoParam (X.N[i]?=some x) L2.aRfl._auto_1)(hv:Vis X.env.scope x:=by first | exact Or.inl rfl | exact Or.inr (Or.inl rfl) | exact Or.inr (Or.inr rfl))(hd:autoParam ((x == ("__debug__":Str))=false) L2.aDec._auto_1)
  (hcd:autoParam ((x == ("__classdict__":Str))=false) L2.aDec._auto_1):PE X (.Name x pos) (tVar i):=pe_var hN hv hd hcd
end
theorem iteF{A B:Prop}(h:B):if false=true then A else B:=by
 rw[if_neg zW]
 exact h
theorem iteT{A B:Prop}(h:A):if true=true then A else B:=by
 rw[if_pos rfl]
 exact h
theorem ite2{c A B:Prop}[Decidable c](h1:c->A)(h2:¬c->B):if c then A else B:=by
 by_cases h:c
 .rw[if_pos h]
  exact h1 h
 .rw[if_neg h]
  exact h2 h
def Same(H H':Hp):Prop:=∀b o,H b=some o->H' b=some o
theorem Same.refl(H:Hp):Same H H:=fun _ _ h=>h
theorem Same.trans{H H1 H2:Hp}(a:Same H H1)(b:Same H1 H2):Same H H2:=fun c o h=>b c o (a c o h)
theorem Same.seq{K:Fg}{H H':Hp}{a:Addr}{xs:List V}(e:Same H H')(h:SqL K H a xs):SqL K H' a xs:=by
 rcases h with(h | ⟨o,h⟩) | h
 .exact .inl (.inl (e _ _ h))
 .exact .inl (.inr ⟨o,e _ _ h⟩)
 .exact .inr h
theorem Qdg{prog:Program}{w:World}{A:Around}{R:Result->Shared->Prop}{s:Shared}{elt target iter:Expr}{ifs:List Expr}{scope:Scope}{pos:Pos}{it acc:Value}{env:Env}(I:Nat->Shared->Prop)
  (turn:∀n s,I n s->wpAny (model prog w) A (pyNext it) (fun r s1=>match r with
   |none=>R (.ok .next) s1
   |some v=>wpAny (model prog w) A (letOwnedTupleGo target it v) (fun _ s1'=>wpAny (model prog w) A (assign target env v) (fun _ s2=>
     wpAny (model prog w) A (forIn ifs true fun c r=>if r=true then do let ok ← isTrue c env (eval c env);pure (ForInStep.yield ok)else pure (ForInStep.yield r)) (fun ok s3=>
      if ok=true then wpAny (model prog w) A (eval elt env) (fun x s4=>
       wpAny (model prog w) A (call (.builtin "list.append") [acc,x]) (fun _ s5=>∃m,m<n/\I m s5) (fun _ _=>False) s4) (fun _ _=>False) s3
      else ∃m,m<n/\I m s3) (fun _ _=>False) s2) (fun _ _=>False) s1') (fun _ _=>False) s1) (fun _ _=>False) s)
  (n:Nat) (h:I n s) :
  codeAny (model prog w) A (.compLoop (.ListComp elt [⟨target,iter,ifs,0⟩] scope pos) 0 it acc env) R s:=by
 refine codeAny_loop rfl I (fun n s hI=>?_) n h
 show wpAny _ A ((compTurn (.ListComp elt [⟨target,iter,ifs,0⟩] scope pos) 0 it acc env).onRaise (fun x=>do noteFrame x env;theTreesLotGoes x)) _ _ s
 refine wpAny_noted ?_
 rw[compTurn_list]
 refine jX (wpAny_standAt (jX (wpAny_mono (turn n s hI) (fun r s1 h1=>?_) fun _ _ h'=>h'.elim)))
 cases r with
 |none=>exact zX h1
 |some v=>
  refine jX (wpAny_mono h1 (fun _ s1' h1'=>?_) fun _ _ h'=>h'.elim)
  refine jX (wpAny_mono h1' (fun _ s2 h2=>jX (wpAny_mono h2 (fun ok s3 h3=>?_) fun _ _ h'=>h'.elim)) fun _ _ h'=>h'.elim)
  cases ok with
  |false=>exact zX ⟨rfl,h3⟩
  |true=>
   exact jX (jX (wpAny_mono h3 (fun x s4 h4=>jX (wpAny_mono h4 (fun _ s5 h5=>zX (zX ⟨rfl,h5⟩)) fun _ _ h'=>h'.elim)) fun _ _ h'=>h'.elim))
def freeOk(sc:Scope):List (Str×NameKind)->Bool
 |[]=>true
 |(n,k)::r=>(k != .free||sc.names.lookup n == some .cell||sc.names.lookup n == some .free)&&freeOk sc r
def Zk(env:Env):List (Str×NameKind)->List (Str×Addr)->List (Str×Addr)
 |[],cs=>cs
 |(n,k)::r,cs=>Zk env r (if k=.free then(n,(env.cells.lookup n).getD 0)::cs else cs)
theorem Ko{env:Env}:∀(l:List (Str×NameKind)) (cs:List (Str×Addr)),(∀n,(n,NameKind.free)∈l->∃c,env.cells.lookup n=some c)->(∀x c,cs.lookup x=some c->env.cells.lookup x=some c) ->
  ∀x c,(Zk env l cs).lookup x=some c->env.cells.lookup x=some c
 |[],cs,_,h=>h
 |(n,k)::r,cs,hl,h=>by
  refine Ko r _ (fun m hm=>hl m (yZ _ hm)) fun x c e=>?_
  by_cases hk:k=.free
  .rw[if_pos hk]at e
   subst hk
   obtain⟨c',hc⟩:=hl n yV
   rw[jZc]at e
   cases hx:x == n with
   |true=>
    rw[hx]at e
    have:x=n:=by simpa using hx
    subst this
    rw[hc]at e
    simp at e
    rw[hc,e]
   |false=>rw[hx]at e;exact h x c e
  .rw[if_neg hk]at e
   exact h x c e
theorem Kp{env:Env}:∀(l:List (Str×NameKind)) (cs:List (Str×Addr)) (x:Str),((cs.lookup x).isSome=true\/(x,NameKind.free)∈l)->((Zk env l cs).lookup x).isSome=true
 |[],cs,x,h=>by
  rcases h with h | h
  .exact h
  .exact nomatch h
 |(n,k)::r,cs,x,h=>by
  refine Kp r _ x ?_
  rcases h with h | h
  .left
   split
   .rw[jZc]
    split
    .rfl
    .exact h
   .exact h
  .rcases kQ.mp h with e | e
   .cases e
    left
    rw[if_pos rfl,jZc]
    simp
   .exact .inr e
theorem Jt{scope:Scope}{env:Env}(h:∀n,(n,NameKind.free)∈scope.names->∃c,env.cells.lookup n=some c):closureFor scope env=pure (Zk env scope.names []):=by
 unfold closureFor
 suffices ∀(l:List (Str×NameKind)) (cs:List (Str×Addr)),(∀n,(n,NameKind.free)∈l->∃c,env.cells.lookup n=some c)->(forIn l cs fun x r=>
   if (x.2 == NameKind.free)=true then do let a ← cellOf env x.1;pure (ForInStep.yield ((x.1,a)::r))else pure (ForInStep.yield r):Sem _)=pure (Zk env l cs)by
  have:=this scope.names [] h
  simp only at this⊢
  rw[this]
  rfl
 intro l
 induction l with
 |nil=>intro cs _;rfl
 |cons p r ih=>
  intro cs hl
  obtain⟨n,k⟩:=p
  rw[List.forIn_cons]
  by_cases hk:k=.free
  .subst hk
   obtain⟨c,hc⟩:=hl n yV
   have e:cellOf env n=pure c:=by unfold cellOf;rw[hc]
   have hb:(NameKind.free == NameKind.free)=true:=rfl
   simp only[hb,if_true,e,Zk,hc,Option.getD_some]
   exact ih _ fun m hm=>hl m (yZ _ hm)
  .have hb:(k == NameKind.free)=false:=by simpa using hk
   simp only[hb,kJa,if_false,Zk,if_neg hk]
   exact ih _ fun m hm=>hl m (yZ _ hm)
theorem Zt{sc:Scope}:∀{l:List (Str×NameKind)},freeOk sc l=true->∀n,(n,NameKind.free)∈l->sc.names.lookup n=some .cell\/sc.names.lookup n=some .free
 |[],_,n,h=>nomatch h
 |(m,k)::r,h,n,hm=>by
  simp only[freeOk,jZd]at h
  rcases kQ.mp hm with e | e
  .cases e
   have h1:=h.1
   have hb:(NameKind.free != NameKind.free)=false:=rfl
   rw[hb]at h1
   simp only[Bool.false_or,yQa,beq_iff_eq]at h1
   exact h1
  .exact Zt h.2 n e
theorem Yy{env:Env}:∀{names:List (Str×NameKind)} {x:Str} {k:NameKind},(names.map fun(n,k)=>if (k == NameKind.free&&env.scope.kind == .function&&env.kindOf n == some .cell)then(n,NameKind.cell)else(n,k)).lookup x=some k ->
  ∃k0,names.lookup x=some k0/\(k=k0\/(k=.cell/\k0=.free))
 |[],_,_,h=>by simp at h
 |(n,k0)::r,x,k,h=>by
  rw[yX]at h
  by_cases hc:(k0 == NameKind.free&&env.scope.kind == .function&&env.kindOf n == some .cell)=true
  .simp only[hc,if_true,jZc]at h
   rw[jZc]
   cases hx:x == n with
   |true=>
    rw[hx]at h
    refine⟨k0,rfl,.inr ⟨(Option.some.inj h).symm,?_⟩⟩
    simp only[jZd,beq_iff_eq]at hc
    exact hc.1.1
   |false=>rw[hx]at h;exact Yy h
  .simp only[hc,kJa,if_false,jZc]at h
   rw[jZc]
   cases hx:x == n with
   |true=>rw[hx]at h;exact⟨k0,rfl,.inl (Option.some.inj h).symm⟩
   |false=>rw[hx]at h;exact Yy h
theorem lookup_mem{α:Type}:∀{l:List (Str×α)} {x:Str} {k:α},l.lookup x=some k->(x,k)∈l
 |[],_,_,h=>by simp at h
 |(n,k0)::r,x,k,h=>by
  rw[jZc]at h
  cases hx:x == n with
  |true=>
   rw[hx]at h
   have e1:x=n:=by simpa using hx
   have e2:k0=k:=Option.some.inj h
   subst e1 e2
   exact yV
  |false=>rw[hx]at h;exact yZ _ (lookup_mem h)
def Ws(cp:List (Option Nat))(σ:St):St:=cp.map fun(o:Option Nat)=>match o with
 |none=>none
 |some j=>match σ[(j:Nat)]? with
  |some v=>v
  |none=>none
def Kx(X:Cx)(scope:Scope):List Str->List (Option Nat)->Bool
 |[],[]=>true
 |x::N,o::cp=>(match o with | none=>true | some j=>X.N[j]? == some x&&scope.names.lookup x == some .free)&&Kx X scope N cp
 |_,_=>false
theorem Qdh{X:Cx}{scope:Scope}:∀{N:List Str} {cp:List (Option Nat)},Kx X scope N cp=true->cp.length=N.length
 |[],[],_=>rfl
 |_::N,_::cp,h=>by
  simp only[Kx,jZd]at h
  simp[Qdh h.2]
 |[],_::_,h=>by simp[Kx]at h
 |_::_,[],h=>by simp[Kx]at h
theorem Qdi{X:Cx}{scope:Scope}:∀{N:List Str} {cp:List (Option Nat)} {i:Nat} {x:Str} {v:V} {σ:St},Kx X scope N cp=true->N[i]?=some x->(Ws cp σ)[i]?=some (some v) ->
  ∃j:Nat,X.N[j]?=some x/\σ[j]?=some (some v)/\scope.names.lookup x=some .free
 |[],[],i,x,v,σ,_,h,_=>by simp at h
 |y::N,o::cp,0,x,v,σ,h,e,e2=>by
  simp only[Kx,jZd]at h
  have e':y=x:=by simpa using e
  subst e'
  cases o with
  |none=>simp[Ws]at e2
  |some j=>
   have h1:=h.1
   simp only[jZd,beq_iff_eq]at h1
   refine⟨j,h1.1,?_,h1.2⟩
   simp only[Ws,yX,List.getElem?_cons_zero,Option.some.injEq]at e2
   cases q:σ[j]? with
   |none=>rw[q]at e2;cases e2
   |some z=>rw[q]at e2;exact congrArg some e2
 |y::N,o::cp,i+1,x,v,σ,h,e,e2=>by
  simp only[Kx,jZd]at h
  exact Qdi (i:=i) h.2 (by simpa using e) (by simpa[Ws]using e2)
 |[],_::_,_,_,_,_,h,_,_=>by simp[Kx]at h
 |_::_,[],_,_,_,_,h,_,_=>by simp[Kx]at h
def Yd(X:Cx)(N:List Str)(scope:Scope)(fp:List Addr)(H:Hp)(s:Shared):Cx :=
 { X with N:=N,s₀:=s,H₀:=H,env:=compEnvC scope (Zk X.env scope.names []) s.heap.objs.size X.env,outer:=X.stack,stack:=X.stack,ex:=fp,fn:=fun _=>false,pn:=[],xe:=fun _ _=>False }
section
variable{X:Cx}
theorem Qaw{l:List (Str×NameKind)}(h:(l.all fun p=>p.2 != .cell)=true):∀y∈l,y.2≠.cell:=fun y hy=>by
 have:=jJe.mp h y hy
 simpa using this
theorem Qhf{pins:List (Addr×Obj)}{σ:St}{H:Hp}{s:Shared}{N:List Str}{scope:Scope}{fp:List Addr}(I:Inv X pins σ H s)(hf:∀b∈fp,FpOk X pins H b)(hlt:∀b∈fp,b<s.heap.objs.size)(hk:scope.kind=.function)
  (hcell:(scope.names.all fun p=>p.2 != .cell)=true) (hfree:freeOk X.env.scope scope.names=true):(Yd X N scope fp H s).Ok:=by
 have has:∀n,(n,NameKind.free)∈scope.names->∃c,X.env.cells.lookup n=some c:=fun n hn=>I.ok.has n (Zt hfree n hn)
 have sub:∀x c,(Zk X.env scope.names []).lookup x=some c->X.env.cells.lookup x=some c:=Ko _ _ has fun x c e=>by simp at e
 have fs:∀b∈fp,b∉frs X.stack:=fun b hb z=>by
  obtain⟨_,f1,f2,_⟩:=hf b hb
  rcases kQ.mp (I.stkSub b z)with e | e
  .exact f1 e
  .exact f2 e
 refine⟨I.ok.mod,hk,I.ok.glob,I.ok.blt,jY _,fun x y c h1 h2=>I.ok.inj x y c (sub x c h1) (sub y c h2),fun x hx=>?_,(fun x c h=>nomatch h),I.ok.hd,I.ok.frames,.inl rfl,fun b hb=>⟨zJ (hlt b hb),fun x c e=>(hf b hb).2.2.2.2.1 x c (sub x c e)⟩,
  I.bs,jQb I.ok.bsz I.sz,fun b o e hb=>?_,fs,I.stack,I.stkFree⟩
 ·have hx':(scope.names.map fun (n,k)=>if (k == NameKind.free && X.env.scope.kind == .function && X.env.kindOf n == some .cell) then (n,NameKind.cell) else (n,k)).lookup x=some .cell \/
    (scope.names.map fun(n,k)=>if (k == NameKind.free&&X.env.scope.kind == .function&&X.env.kindOf n == some .cell)then(n,NameKind.cell)else(n,k)).lookup x=some .free:=hx
  have fr:(x,NameKind.free)∈scope.names:=by
   rcases hx' with e | e
   .obtain⟨k0,e0,z | z⟩:=Yy e
    .subst z
     exact absurd rfl (Qaw hcell _ (lookup_mem e0))
    .obtain⟨_,z⟩:=z
     subst z
     exact lookup_mem e0
   .obtain⟨k0,e0,z | z⟩:=Yy e
    .subst z
     exact lookup_mem e0
    .exact nomatch z.1
  exact kXd.mp (Kp _ _ x (.inr fr))
 .obtain⟨_,_,_,f3,_⟩:=hf b hb
  rcases f3 with z | z
  .exact I.ok.noex b o e z
  .exact absurd (xY (yY (I.ok.bs b o e).1) z) (wW _)
theorem Qjp{pins:List (Addr×Obj)}{σ:St}{H:Hp}{s:Shared}{N:List Str}{scope:Scope}{fp:List Addr}{cp:List (Option Nat)}{h':Heap}{m:Str->Option Value}{t':Nat}(I:Inv X pins σ H s)(hf:∀b∈fp,FpOk X pins H b)(hlt:∀b∈fp,b<s.heap.objs.size)(hk:scope.kind=.function)
  (hcell:(scope.names.all fun p=>p.2 != .cell)=true) (hfree:freeOk X.env.scope scope.names=true) (hcap:Kx X scope N cp=true)
  (hns:h'.Ns s.heap.objs.size m) (hx:∀b o,s.heap.get? b=some o->h'.get? b=some o):Inv (Yd X N scope fp H s) [] (Ws cp σ) H { s with heap:=h',toks:=t' }:=by
 have has:∀n,(n,NameKind.free)∈scope.names->∃c,X.env.cells.lookup n=some c:=fun n hn=>I.ok.has n (Zt hfree n hn)
 have sub:∀x c,(Zk X.env scope.names []).lookup x=some c->X.env.cells.lookup x=some c:=Ko _ _ has fun x c e=>by simp at e
 refine⟨Qhf I hf hlt hk hcell hfree,rfl,I.bare,⟨fun b o e n _ _=>hx b o e,fun b o e n _ _=>⟨o.slots,hx b o e⟩,fun b o e n _=>n,fun b o e _=>⟨o,hx b o e⟩,fun b xs e=>e,fun b o xs e=>e,fun b ps e=>⟨#[],by rw[Array.append_empty];exact e⟩⟩,⟨m,hns,fun i x v e1 e2 e3=>?_⟩,fun x c e=>?_,I.hok.fresh (jY _),fun x c e=>I.freeC x c (sub x c e),(fun p hp=>nomatch hp),I.hok.kept hx,?_⟩
 .obtain⟨j,h1,h2,h3⟩:=Qdi hcap e1 e2
  obtain⟨m',_,hl⟩:=I.loc
  have hkx:=Zt hfree x (lookup_mem h3)
  obtain⟨u,r,l⟩:=hl j x v h1 h2 (.inr hkx)
  rcases l with⟨l,_⟩ | ⟨_,c,hc,hcell'⟩
  .rcases hkx with z | z
   .exact nomatch (Option.some.inj (l.symm.trans z))
   .exact nomatch (Option.some.inj (l.symm.trans z))
  .obtain⟨c',hc'⟩:=kXd.mp (Kp (env:=X.env) scope.names [] x (.inr (lookup_mem h3)))
   have ec:=sub x c' hc'
   rw[hc]at ec
   cases ec
   refine⟨u,r,.inr ⟨?_,c,hc',?_⟩⟩
   .rcases e3 with z | z | z
    .obtain⟨k0,e0,y | y⟩:=Yy (show(scope.names.map fun(n,k)=>if (k == NameKind.free&&X.env.scope.kind == .function&&X.env.kindOf n == some .cell)then(n,NameKind.cell)else(n,k)).lookup x=some .local from z)
     .rw[h3]at e0;cases e0;cases y
     .exact nomatch y.1
    .exact .inl z
    .exact .inr z
   .obtain⟨o,ho,hd⟩:=hcell'
    exact⟨o,hx c o ho,hd⟩
 .obtain⟨v,o,ho,hd⟩:=I.cell x c (sub x c e)
  exact⟨v,o,hx c o ho,hd⟩
 .show(Ws cp σ).length=N.length
  unfold Ws
  rw[jQ]
  exact Qdh hcap
theorem Qes{pins:List (Addr×Obj)}{σ σ':St}{H H':Hp}{s s':Shared}{N:List Str}{scope:Scope}{fp:List Addr}{pins':List (Addr×Obj)}(I:Inv X pins σ H s)(hf:∀b∈fp,FpOk X pins H b)
  (J:Inv (Yd X N scope fp H s) pins' σ' H' s'):Inv X pins σ H' s' :=
 I.call' (ch:=fp) J.os J.base J.hok J.bare fun b hb=>⟨(hf b hb).2.2.2.1,(hf b hb).2.1,(hf b hb).2.2.2.2.1,(hf b hb).2.2.2.2.2⟩
def PF(X:Cx)(ifs:List Expr)(t:TT):Prop :=
 ∀(pins:List (Addr×Obj)) (s:Shared) (σ:St) (H:Hp) (Q:Bool->Hp->Prop),Inv X pins σ H s->t σ H Q ->
  wpAny (model X.prog X.w) X.A (forIn ifs true fun c r=>if r=true then do let ok ← isTrue c X.env (eval c X.env);pure (ForInStep.yield ok)else pure (ForInStep.yield r)) (TP X pins σ Q) X.xe s
def tYes:TT:=fun _ H Q=>Q true H
theorem Xy:PF X [] tYes:=fun _ _ _ H _ I h=>wpAny_tests_nil ⟨H,I,h⟩
theorem Qdj{c:Expr}{t:TT}(hc:PT X c t):PF X [c] t:=fun pins s σ H Q I h=>wpAny_tests_one (hc pins s σ H Q I h)
def LcW(J:It)(D:Addr)(τ0:St)(H:Hp)(g:TG)(tt:TT)(te:TE)(Q:Addr->Hp->Prop):Prop:=∃W:Nat->Nat->St->List V->Hp->Prop,(∃m,W 0 m τ0 [] (upd H D (.lst [])))/\∀i m τ ys H,W i m τ ys H ->
 H D=some (.lst ys)/\((J.stop i H/\Q D H)\/(J.go i H/\ys.length<sizeLine/\∃(N1:St->V->Hp->Prop) (N2:St->Hp->Prop),(∀τ v H,N1 τ v H->∃m',m'<m/\W (i+1) m' τ (ys++[v]) (upd H D (.lst (ys++[v]))))/\(∀τ H,N2 τ H->∃m',m'<m/\W (i+1) m' τ ys H) /\
  ∀x H',J.yld i H x H'->g x τ H' fun σ2 H2=>tt σ2 H2 fun ok H3=>if ok=true then te σ2 H3 fun v H4=>H4 D=some (.lst ys)/\N1 σ2 v H4 else N2 σ2 H3))
def tLC(cp:List (Option Nat))(wi:TI)(g:TG)(tt:TT)(te:TE)(σ:St)(H:Hp)(Q:Addr->Hp->Prop):Prop:=wi σ H fun J H1=>∀D,H1 D=none->LcW J D (Ws cp σ) H1 g tt te Q
theorem Qfw{elt iter target:Expr}{ifs:List Expr}{scope:Scope}{pos:Pos}{N:List Str}{cp:List (Option Nat)}{g:TG}{tt:TT}{te:TE}{pins:List (Addr×Obj)}{σ:St}{H:Hp}{s:Shared}{E:Value->Shared->Prop}{Q:Addr->Hp->Prop}
  {it:Addr} {fp:List Addr} {tn:Nat->Heap->Prop} {J:It} {RR:Value->Addr->Result->Shared->Prop} (hc:X.calm=true) (hk:scope.kind=.function) (hcell:(scope.names.all fun p=>p.2 != .cell)=true) (hfree:freeOk X.env.scope scope.names=true) (hcap:Kx X scope N cp=true)
  (hg:∀fp H s,PG (Yd X N scope fp H s) target g) (ht:∀fp H s,PF (Yd X N scope fp H s) ifs tt) (he:∀fp H s,PE (Yd X N scope fp H s) elt te)
  (I:Inv X pins σ H s) (T:Turn X.prog X.w X.K target J fp it tn) (st:tn 0 s.heap) (hf:∀b∈fp,FpOk X pins H b)
  (h:∀D,H D=none->LcW J D (Ws cp σ) H g tt te Q)
  (hRR:∀D C s' H' m,Inv X pins σ H' s'->FpOk X pins H' C->s'.heap.Ns C m->Q D H'->RR (.ref D) C (.ok .next) s') :
  wpAny (model X.prog X.w) X.A (newList []) (fun acc s3=>wpAny (model X.prog X.w) X.A (newFunctionEnv scope X.env.globals (Zk X.env scope.names []) [] X.env.qual none .none (some X.env)) (fun cenv s4=>
   codeAny (model X.prog X.w) X.A (.compStart (.ListComp elt [⟨target,iter,ifs,0⟩] scope pos) 0 (.ref it) acc { cenv with scope:=relabel scope X.env }) (RR acc cenv.locals) s4) E s3) E s:=by
 have hlt:∀b∈fp,b<s.heap.objs.size:=fun b hb=>by
  obtain⟨o,e,_⟩:=T.obj _ _ st b hb
  exact yY e
 refine wpAny_newObj_type (wpAny_newFunctionEnv (Qaw hcell) (by intro y hy;simp at hy) (fun h1 hns1 hsb1=>?_) hk)
 dsimp only at hns1 hsb1⊢
 have hD:H s.heap.objs.size=none:=I.hok.fresh (jY _)
 have I3:Inv X pins σ (upd H s.heap.objs.size (.lst [])) { s with heap:=s.heap.push { cls:=.type "list",dict:=none,data:=.seq ([]:List Value).toArray } } :=
  I.laid (t':=s.toks) (fun b u e=>jK _ e) (jY _) ⟨jQc _,[],0,.nil,yJ _ rfl⟩
 have hf3:∀b∈fp,FpOk X pins (upd H s.heap.objs.size (.lst [])) b:=fun b hb=>⟨by rw[Qj (zJ (hlt b hb))];exact(hf b hb).1,(hf b hb).2⟩
 have hlt3:∀b∈fp,b<(s.heap.push { cls:=.type "list",dict:=none,data:=.seq ([]:List Value).toArray }).objs.size:=fun b hb=>by rw[jJa];exact jKc (hlt b hb)
 generalize hH2:s.heap.push { cls:=.type "list",dict:=none,data:=.seq ([]:List Value).toArray }=H2 at hns1 hsb1 I3 hlt3⊢
 generalize hs3:({ s with heap:=H2 }:Shared)=s3 at I3
 have hs3h:s3.heap=H2:=by rw[<-hs3]
 have ext1:∀b o,s3.heap.get? b=some o->h1.get? b=some o:=fun b o e=>by
  rw[hs3h]at e
  exact hsb1.extBut b o (zJ (yY e)) (jK _ e)
 have J0:Inv (Yd X N scope fp (upd H s.heap.objs.size (.lst [])) s3) [] (Ws cp σ) (upd H s.heap.objs.size (.lst [])) { s3 with heap:=h1,toks:=s.toks+([]:List (Str×Value)).length } :=
  Qjp I3 hf3 (by rw[hs3h];exact hlt3) hk hcell hfree hcap (by rw[hs3h];exact hns1) ext1
 have st1:tn 0 h1:=T.keep _ _ _ st fun b hb o e=>ext1 b o (by rw[hs3h,<-hH2];exact jK _ e)
 obtain⟨W,⟨m0,w0⟩,turn⟩:=h s.heap.objs.size hD
 have stat:∀{H':Hp},(∀b∈fp,H' b=none)->∀b∈fp,FpOk (Yd X N scope fp (upd H s.heap.objs.size (.lst [])) s3) [] H' b:=fun{H'} hn b hb=>
  ⟨hn b hb,(J0.ok.exf b hb).1,J0.ok.exfs b hb,.inl hb,(J0.ok.exf b hb).2,fun p hp=>nomatch hp⟩
 have loop:codeAny (model X.prog X.w) X.A (.compLoop (.ListComp elt [⟨target,iter,ifs,0⟩] scope pos) 0 (.ref it) (.ref s.heap.objs.size) (compEnvC scope (Zk X.env scope.names []) H2.objs.size X.env))
   (RR (.ref s.heap.objs.size) H2.objs.size) { s3 with heap:=h1,toks:=s.toks+([]:List (Str×Value)).length }:=by
  have eEnv:compEnvC scope (Zk X.env scope.names []) H2.objs.size X.env=(Yd X N scope fp (upd H s.heap.objs.size (.lst [])) s3).env:=by
   rw[<-hs3h];rfl
  rw[eEnv]
  refine Qdg (fun n s'=>∃i τ ys H',Inv (Yd X N scope fp (upd H s.heap.objs.size (.lst [])) s3) [] τ H' s'/\tn i s'.heap/\(∀b∈fp,H' b=none)/\W i n τ ys H') ?_ m0 ⟨0,Ws cp σ,[],_,J0,st1,fun b hb=>(hf3 b hb).1,w0⟩
  rintro n s4 ⟨i,τ,ys,H4,I4,st4,fr4,w4⟩
  obtain⟨hD4,hh⟩:=turn i n τ ys H4 w4
  rcases hh with⟨stop,qn⟩ | ⟨go,hlen,N1,N2,hN1,hN2,step⟩
  .refine thn (T.done (Yd X N scope fp (upd H s.heap.objs.size (.lst [])) s3) rfl rfl rfl hc i [] s4 τ H4 _ I4 (stat fr4) st4 stop) fun r s5 hqP=>?_
   obtain⟨hr,I5⟩:=hqP
   subst hr
   obtain⟨m,hm,_⟩:=I5.loc
   have e5:H2.objs.size=(Yd X N scope fp (upd H s.heap.objs.size (.lst [])) s3).env.locals:=by rw[<-eEnv];rfl
   refine hRR _ _ s5 H4 m (Qes I3 hf3 I5) ?_ (by rw[e5];exact hm) qn
   exact I3.fpOk (by rw[hs3h];exact jY _) (by rw[e5];exact I5.free)
  .refine thn (T.item (Yd X N scope fp (upd H s.heap.objs.size (.lst [])) s3) rfl rfl rfl hc i [] s4 τ H4 _ I4 (stat fr4) st4 go) fun r s5 hqP=>?_
   obtain⟨u,hr,h5⟩:=hqP
   subst hr
   refine thn h5 fun _ s6 hqP=>?_
   obtain⟨x,H6,I6,r6,y6,st6,fr6⟩:=hqP
   have I6':=I6.pinned (stat fr6) (T.obj _ _ st6)
   refine thn (hg fp _ _ _ s6 τ H6 x u _ I6' r6 (step x H6 y6)) fun _ s7 hqP=>?_
   obtain⟨σ7,H7,I7,q7⟩:=hqP
   refine thn (ht fp _ _ _ s7 σ7 H7 _ I7 q7) fun ok s8 hqP=>?_
   obtain⟨H8,I8,q8⟩:=hqP
   have back:∀{σ':St} {H':Hp} {s':Shared},Inv (Yd X N scope fp (upd H s.heap.objs.size (.lst [])) s3) ([]++Qcx fp s6.heap) σ' H' s'->Inv (Yd X N scope fp (upd H s.heap.objs.size (.lst [])) s3) [] σ' H' s'/\tn (i+1) s'.heap/\∀b∈fp,H' b=none:=fun{σ' H' s'} I'=>by
    refine⟨I'.unpinned,T.keep _ _ _ st6 fun b hb o e=>(I'.pin (b,o) (wK _ (wK _ (Kb hb e)))).1,fun b hb=>?_⟩
    obtain⟨o,e,d⟩:=T.obj _ _ st6 b hb
    exact(I'.pin (b,o) (wK _ (wK _ (Kb hb e)))).2.1
   cases ok with
   |false=>
    rw[if_neg zW]at q8⊢
    obtain⟨m',hm,w8⟩:=hN2 _ _ q8
    obtain⟨b1,b2,b3⟩:=back I8
    exact⟨m',hm,i+1,σ7,ys,H8,b1,b2,b3,w8⟩
   |true=>
    rw[if_pos rfl]at q8⊢
    refine thn (he fp _ _ _ s8 σ7 H8 _ I8 q8) fun y s9 hqP=>?_
    obtain⟨v,H9,I9,r9,hD9,n9⟩:=hqP
    obtain⟨m',hm,w9⟩:=hN1 _ _ _ n9
    refine thn (Yp _ s9 σ7 H9 (.ref s.heap.objs.size) [v] (.ref s.heap.objs.size) [y] (fun _ H'=>H'=upd H9 s.heap.objs.size (.lst (ys++[v]))) I9 rfl (.cons r9 .nil) ⟨_,ys,v,rfl,rfl,hD9,hlen,rfl⟩) fun _ s10 hqP=>?_
    obtain⟨_,H10,I10,_,e10⟩:=hqP
    subst e10
    obtain⟨b1,b2,b3⟩:=back I10
    exact⟨m',hm,i+1,σ7,_,_,b1,b2,b3,w9⟩
 have e3:({ s with heap:=h1,toks:=s.toks+([]:List (Str×Value)).length }:Shared)={ s3 with heap:=h1,toks:=s.toks+([]:List (Str×Value)).length }:=by rw[<-hs3]
 rw[e3]
 exact codeAny_compStart_list loop (T.self _ 0 _ _ _ st1 loop)
theorem Zm{elt iter target:Expr}{ifs:List Expr}{scope:Scope}{pos:Pos}(N:List Str)(cp:List (Option Nat)){wi:TI}{g:TG}{tt:TT}{te:TE}(hc:X.calm=true)(hi:PI X target iter wi)
  (hg:∀fp H s,PG (Yd X N scope fp H s) target g) (ht:∀fp H s,PF (Yd X N scope fp H s) ifs tt) (he:∀fp H s,PE (Yd X N scope fp H s) elt te)
  (hk:autoParam (scope.kind=.function) L2.aRfl._auto_1) (hcell:autoParam ((scope.names.all fun p=>p.2 != .cell)=true) L2.aRfl._auto_1) (hfree:autoParam (freeOk X.env.scope scope.names=true) L2.aRfl._auto_1) (hcap:autoParam (Kx X scope N cp=true) L2.aRfl._auto_1)
  (hnames:autoParam ((scope.names.all fun p=>p.2 != .local||scope.names.lookup p.1 == some .local)=true) L2.aRfl._auto_1) (hs:autoParam (∀x,foldedSetIterable iter X.env x=pure x) L2.aIrf._auto_1) :
  PE X (.ListComp elt [⟨target,iter,ifs,0⟩] scope pos) (fun σ H Q=>tLC cp wi g tt te σ H fun D H'=>Q (.ref D) H'):=by
 intro pins s σ H Q I h
 rw[eval_ListComp]
 have has:∀n,(n,NameKind.free)∈scope.names->∃c,X.env.cells.lookup n=some c:=fun n hn=>I.ok.has n (Zt hfree n hn)
 refine wpAny_comprehension_free (use:=none) rfl hs (Jt has) hk (fun x hx hl=>?_) (thn (hi pins s σ H _ I h) fun xv s1 h1=>thn h1 fun itv s2 h2=>?_)
 .have:=jJe.mp hnames x hx
  simp only[yQa,bne_iff_ne,beq_iff_eq]at this
  exact this.resolve_left fun z=>z hl
 .obtain⟨it,fp,tn,J,H2,e,I2,T,st2,f2,hW⟩:=h2
  subst e
  refine Qfw (N:=N) (cp:=cp) hc hk hcell hfree hcap hg ht he I2 T st2 f2 hW fun D C s' H' m I' fC hm q=>⟨m,hm,fun h' hsb=>?_⟩
  exact⟨.ref D,H',I'.turned (t':=s'.toks) (fun b o hb e=>hsb.extBut b o hb e) fC.1 fC.2.1 fC.2.2.2.1 fC.2.2.2.2.1 fC.2.2.2.2.2,rfl,q⟩
theorem Zx{i:Nat}{x:Str}{px:Pos}{elt iter target:Expr}{ifs:List Expr}{scope:Scope}{pos spos:Pos}(N:List Str)(cp:List (Option Nat)){wi:TI}{g:TG}{tt:TT}{te:TE}(hc:X.calm=true)(hN:X.N.Nodup)(hi':X.N[i]?=some x)(hx:Loc X.env.scope x)(hi:PI X target iter wi)
  (hg:∀fp H s,PG (Yd X N scope fp H s) target g) (ht:∀fp H s,PF (Yd X N scope fp H s) ifs tt) (he:∀fp H s,PE (Yd X N scope fp H s) elt te)
  (hsw:autoParam (swapsWith (.ListComp elt [⟨target,iter,ifs,0⟩] scope pos) (some (.Name x px)) spos.line X.env=pure true) L2.aRfl._auto_1)
  (hk:autoParam (scope.kind=.function) L2.aRfl._auto_1) (hcell:autoParam ((scope.names.all fun p=>p.2 != .cell)=true) L2.aRfl._auto_1) (hfree:autoParam (freeOk X.env.scope scope.names=true) L2.aRfl._auto_1) (hcap:autoParam (Kx X scope N cp=true) L2.aRfl._auto_1)
  (hnames:autoParam ((scope.names.all fun p=>p.2 != .local||scope.names.lookup p.1 == some .local)=true) L2.aRfl._auto_1) (hs:autoParam (∀x,foldedSetIterable iter X.env x=pure x) L2.aIrf._auto_1)
  (hf:autoParam (X.fn x=true\/X.env.scope.names.lookup x=some .local) L2.aFst._auto_1) :
  PS X (.Assign [.Name x px] (.ListComp elt [⟨target,iter,ifs,0⟩] scope pos) spos) (fun D σ H=>tLC cp wi g tt te σ H fun a H'=>D.nx (σ.set i (some (.ref a))) H'):=by
 intro pins s σ H D I h
 have has:∀n,(n,NameKind.free)∈scope.names->∃c,X.env.cells.lookup n=some c:=fun n hn=>I.ok.has n (Zt hfree n hn)
 rw[exec_Assign_Name_used _ _ _ _ hsw]
 refine jX (wpAny_standAt (jX ?_))
 show wpAny _ _ (do let _ ← comprehension (.ListComp elt [⟨target,iter,ifs,0⟩] scope pos) scope X.env _ (newList []) false (eval iter X.env) (some (assign (.Name x px) X.env))) _ _ s
 refine jX (wpAny_mono (wpAny_comprehension_free (use:=some (assign (.Name x px) X.env)) (Q:=fun _ s'=>SP X pins D .next s') rfl hs (Jt has) hk (fun x hx hl=>?_)
  (thn (hi pins s σ H _ I h) fun xv s1 h1=>thn h1 fun itv s2 h2=>?_)) (fun _ s' hq=>zX (zX hq)) fun _ _ e=>e)
 .have:=jJe.mp hnames x hx
  simp only[yQa,bne_iff_ne,beq_iff_eq]at this
  exact this.resolve_left fun z=>z hl
 .obtain⟨it,fp,tn,J,H2,e,I2,T,st2,f2,hW⟩:=h2
  subst e
  refine Qfw (N:=N) (cp:=cp) hc hk hcell hfree hcap hg ht he I2 T st2 f2 hW fun D' C s' H' m I' fC hm q=>?_
  show wpAny _ _ (assign (.Name x px) X.env (.ref D')) _ _ _
  refine wpAny_assign_Name (Qcv I' hN hi' hx (v:=.ref D') rfl (fun s'' I'' hsb=>?_) hf)
  obtain⟨a,hsb,ha⟩:=hsb
  have hCa:C≠a:=by
   rcases ha with e | e
   .rw[e];exact fC.2.1
   .exact fun z=>fC.2.2.2.2.1 x a e z.symm
  refine⟨m,hm.sameBut hsb hCa,fun h' hsb'=>?_⟩
  exact⟨_,H',I''.turned (t':=s''.toks) (fun b o hb e=>hsb'.extBut b o hb e) fC.1 fC.2.1 fC.2.2.2.1 fC.2.2.2.2.1 fC.2.2.2.2.2,q⟩
end
structure Drw(P:Program)(w:World)(it l:Addr)(st:Nat->Heap->Prop)(src:List Value->Heap->Prop):Prop where
 obj:∀i h,st i h->∃o,h.get? it=some o/\∀v,o.data≠.cell v
 keep:∀i h h',st i h->(∀o,h.get? it=some o->h'.get? it=some o)->st i h'
 srck:∀xs h h',src xs h->(∀o,h.get? l=some o->h'.get? l=some o)->src xs h'
 item:∀(A:Around) (E:Value->Shared->Prop) (s:Shared) (i:Nat) (xs:List Value) (x:Value) (Q:Value->Shared->Prop),st i s.heap->src xs s.heap->xs[i]?=some x ->
  (∀h',st (i+1) h'->Heap.SameBut it s.heap h'->Q x { s with heap:=h' })->wpAny (model P w) A (Builtin.SmallTypes.nextOf (.ref it)) Q E s
 done:∀(A:Around) (E:Value->Shared->Prop) (s:Shared) (i:Nat) (xs:List Value) (Q:Value->Shared->Prop),A.handled=none->st i s.heap->src xs s.heap->xs[i]?=none ->
  (∀h' e,Heap.ExtBut it s.heap h'->(∃o,h'.get? e=some o/\o.cls=.type "StopIteration")->E (.ref e) { s with heap:=h' })->wpAny (model P w) A (Builtin.SmallTypes.nextOf (.ref it)) Q E s
theorem Qnb{P:Program}{w:World}(it l:Addr):Drw P w it l (fun i h=>h.IsListIter it l i) (fun xs h=>h.IsList l xs.toArray) where
 obj:=fun i h st=>by
  obtain⟨o,e,c,d⟩:=st
  exact⟨o,e,fun v z=>by rw[d]at z;cases z⟩
 keep:=fun i h h' st k=>st.at k
 srck:=fun xs h h' sr k=>sr.at k
 item:=fun A E s i xs x Q st sr hx hQ=>wpAny_nextOf_list_item st sr (by simpa using hx) hQ
 done:=fun A E s i xs Q hh st sr hx hE=>wpAny_nextOf_list_end hh st sr (by simpa using hx) hE
section
variable{P:Program}{w:World}{A:Around}{E:Value->Shared->Prop}{s:Shared}
theorem Wt{it t:Addr}{i:Nat}{xs:Array Value}{x:Value}{Q:Value->Shared->Prop}(hI:s.heap.IsTupleIter it t i)(hT:s.heap.IsTuple t xs)(hx:xs[i]?=some x)
  (hQ:∀h',h'.IsTupleIter it t (i+1)->Heap.SameBut it s.heap h'->Q x { s with heap:=h' }):wpAny (model P w) A (Builtin.SmallTypes.nextOf (.ref it)) Q E s:=by
 obtain⟨oI,gI,cI,dI⟩:=id hI
 obtain⟨oT,gT,_,nT,dT⟩:=hT
 unfold Builtin.SmallTypes.nextOf
 refine jX (wpAny_callSpecial?_slot (name:=Str.ofString "__next__") hI.typeIs F.slot_tuple_iterator_next (wpAny_call_entry F.slot_tuple_iterator_next hI.typeIs F.entry_tuple_iterator_next ?_ (F.args_tuple_iterator_next_1 _)))
 show wpAny _ _ (field (.ref it) 0 >>= _) _ _ s
 refine jX (wpAny_field gI dI (x:=.ref t) rfl ?_)
 show wpAny _ _ (if (Value.ref t == Value.none)=true then _ else _) _ _ s
 rw[if_neg (show ¬((Value.ref t == Value.none)=true)from zW)]
 show wpAny _ _ (field (.ref it) 1 >>= _) _ _ s
 refine jX (wpAny_field gI dI (x:=.int i 0) rfl ?_)
 show wpAny _ _ (seqItems? (.ref t) >>= _) _ _ s
 refine jX (wpAny_seqItems gT dT ?_)
 simp only[zK,hx]
 refine jX (wpAny_setField gI dI (by simp) (zX ⟨x,rfl,zX (hQ _ ?_ (Heap.SameBut.update ..))⟩))
 refine⟨_,Heap.get?_update_self _ gI (Obj.isFreed_of_fields (Obj.data_mapFields dI _)),(Obj.cls_mapFields ..).trans cI,?_⟩
 rw[Obj.data_mapFields dI];simp[rawInt]
theorem Qam{it t:Addr}{i:Nat}{xs:Array Value}{Q:Value->Shared->Prop}(hh:A.handled=none)(hI:s.heap.IsTupleIter it t i)(hT:s.heap.IsTuple t xs)(hx:xs[i]?=none)
  (hE:∀h' e,Heap.ExtBut it s.heap h'->(∃o,h'.get? e=some o/\o.cls=.type "StopIteration")->E (.ref e) { s with heap:=h' }):wpAny (model P w) A (Builtin.SmallTypes.nextOf (.ref it)) Q E s:=by
 obtain⟨oI,gI,cI,dI⟩:=id hI
 obtain⟨oT,gT,_,nT,dT⟩:=hT
 unfold Builtin.SmallTypes.nextOf
 refine jX (wpAny_callSpecial?_slot (name:=Str.ofString "__next__") hI.typeIs F.slot_tuple_iterator_next (wpAny_call_entry F.slot_tuple_iterator_next hI.typeIs F.entry_tuple_iterator_next ?_ (F.args_tuple_iterator_next_1 _)))
 show wpAny _ _ (field (.ref it) 0 >>= _) _ _ s
 refine jX (wpAny_field gI dI (x:=.ref t) rfl ?_)
 show wpAny _ _ (if (Value.ref t == Value.none)=true then _ else _) _ _ s
 rw[if_neg (show ¬((Value.ref t == Value.none)=true)from zW)]
 show wpAny _ _ (field (.ref it) 1 >>= _) _ _ s
 refine jX (wpAny_field gI dI (x:=.int i 0) rfl ?_)
 show wpAny _ _ (seqItems? (.ref t) >>= _) _ _ s
 refine jX (wpAny_seqItems gT dT ?_)
 simp only[zK,hx]
 refine jX (wpAny_rule (jX (wpAny_setField gI dI (by simp) ?_)))
 show wpAny _ _ (newExc (.type "StopIteration") [] >>= _) _ _ _
 refine jX ?_
 simp only[newExc,newTuple]
 refine jX (wpAny_newObj_type ?_ (by size_fits))
 refine jX (m:=firstArgMember _ _) (wpAny_of_eq (a:=Value.none) (by first | rfl | (simp only[firstArgMember];rfl)) ?_)
 refine wpAny_newObj_type ?_ (by size_fits)
 simp only[raiseNew]
 refine jX (wpAny_handled ?_)
 first | rw[show A.in1.handled=none from hh] | rw[hh]
 exact jX (zX (wpAny_throw (hE _ _ (((Heap.SameBut.update ..).extBut.push _).push _) ⟨_,yJ _ rfl,rfl⟩)))
end
theorem Qrm{P:Program}{w:World}(it l:Addr):Drw P w it l (fun i h=>h.IsTupleIter it l i) (fun xs h=>h.IsTuple l xs.toArray) where
 obj:=fun i h st=>by
  obtain⟨o,e,c,d⟩:=st
  exact⟨o,e,fun v z=>by rw[d]at z;cases z⟩
 keep:=fun i h h' st k=>st.at k
 srck:=fun xs h h' sr k=>sr.at k
 item:=fun A E s i xs x Q st sr hx hQ=>Wt st sr (by simpa using hx) hQ
 done:=fun A E s i xs Q hh st sr hx hE=>Qam hh st sr (by simpa using hx) hE
section
variable{P:Program}{w:World}{A:Around}{E:Value->Shared->Prop}{s:Shared}{z u o i1 i2 l1 l2:Addr}{st1 st2:Nat->Heap->Prop}{src1 src2:List Value->Heap->Prop}{k1 k2:Nat}{xs ys:List Value}{a b:Value}
theorem Qdk{x y:Value}{Q:Option Value->Shared->Prop}(d1:Drw P w i1 l1 st1 src1)(d2:Drw P w i2 l2 st2 src2)(D:ZipApart z u o i1 i2 l1 l2)(hZ:IsZip s.heap z u o .none)(hU:IsPair s.heap u (.ref i1) (.ref i2))(hO:IsPair s.heap o a b)
  (h1:st1 k1 s.heap) (h2:st2 k2 s.heap) (hl1:src1 xs s.heap) (hl2:src2 ys s.heap) (hx:xs[k1]?=some x) (hy:ys[k2]?=some y)
  (hQ:∀h',IsZip h' z u o (rawInt s.heap.objs.size)->IsPair h' o x y->st1 (k1+1) h'->st2 (k2+1) h'->IsPair h' s.heap.objs.size x y->h'.objs.size=s.heap.objs.size+1 ->
   (∀c q,c≠z->c≠o->c≠i1->c≠i2->s.heap.get? c=some q->h'.get? c=some q)->Q (some (.ref s.heap.objs.size)) { s with heap:=h' }):wpAny (model P w) A (pyNext (.ref z)) Q E s:=by
 have hTy:s.TypeIs (.ref z) "zip":=⟨_,hZ,rfl⟩
 unfold pyNext
 refine jX (wpAny_attempt (wpAny_callSpecial?_slot (name:=Str.ofString "__next__") hTy F.slot_zip_next (wpAny_call_entry F.slot_zip_next hTy F.entry_zip_next ?_ (F.args_zip_next_1 _))))
 show wpAny _ _ (field (.ref z) 2 >>= _) _ _ _
 refine jX (wpAny_field hZ rfl (x:=.bool false) rfl ?_)
 show wpAny _ _ (field (.ref z) 3 >>= _) _ _ _
 refine jX (wpAny_field hZ rfl (x:=.ref u) rfl (jX (wpAny_seqItems hU rfl ?_)))
 show wpAny _ _ (Builtin.SmallTypes.ownedTupleIsFree (.ref z) >>= _) _ _ _
 refine jX ?_
 unfold Builtin.SmallTypes.ownedTupleIsFree
 refine jX (wpAny_field hZ rfl (x:=.none) rfl (zX ?_))
 simp only[if_true]
 refine jX (wpAny_rule (jX (wpAny_field hZ rfl (x:=.ref o) rfl (jX (wpAny_setField_rec hZ (by simp) fun g1 hZ1 e1=>?_)))))
 replace hZ1:IsZip g1 z u o .ellipsis:=hZ1
 refine jX ?_
 simp only[List.zipIdx_cons,List.zipIdx_nil,List.forIn_cons,List.forIn_nil]
 refine jX (jX (wpAny_onRaise ?_))
 show wpAny _ _ (Builtin.SmallTypes.nextOf (.ref i1) >>= _) _ _ _
 refine jX (d1.item _ _ { s with heap:=g1 } k1 xs x _ (d1.keep _ _ _ h1 fun q e=>e1.extBut _ _ D.i1z e) (d1.srck _ _ _ hl1 fun q e=>e1.extBut _ _ D.l1z e) hx fun g2 h1' e2=>zX ?_)
 have hO2:IsPair g2 o a b:=e2.extBut _ _ D.TOi1 (e1.extBut _ _ D.TOz hO)
 refine jX (wpAny_seqItems hO2 rfl (jX (wpAny_updateSeq_pair hO2 fun g3 hO3 e3=>?_)))
 replace hO3:IsPair g3 o x b:=hO3
 refine jX (wpAny_letGo (zX ?_))
 refine jX (jX (wpAny_onRaise ?_))
 show wpAny _ _ (Builtin.SmallTypes.nextOf (.ref i2) >>= _) _ _ _
 refine jX (d2.item _ _ { s with heap:=g3 } k2 ys y _ (d2.keep _ _ _ h2 fun q e=>e3.extBut _ _ D.TOi2.symm (e2.extBut _ _ D.i12.symm (e1.extBut _ _ D.i2z e)))
  (d2.srck _ _ _ hl2 fun q e=>e3.extBut _ _ D.l2TO (e2.extBut _ _ D.l2i1 (e1.extBut _ _ D.l2z e))) hy fun g4 h2' e4=>zX ?_)
 have hO4:IsPair g4 o x b:=e4.extBut _ _ D.TOi2 hO3
 refine jX (wpAny_seqItems hO4 rfl (jX (wpAny_updateSeq_pair hO4 fun g5 hO5 e5=>?_)))
 replace hO5:IsPair g5 o x y:=hO5
 refine jX (wpAny_letGo (zX (zX ?_)))
 refine jX (wpAny_seqItems hO5 rfl (jX (wpAny_newTuple ?_)))
 have hsz:g5.objs.size=s.heap.objs.size:=by rw[e5.1,e4.1,e3.1,e2.1,e1.1]
 have hZ5:IsZip g5 z u o .ellipsis:=e5.extBut _ _ D.TOz.symm (e4.extBut _ _ D.i2z.symm (e3.extBut _ _ D.TOz.symm (e2.extBut _ _ D.i1z.symm hZ1)))
 have hk5:∀c q,c≠z->c≠o->c≠i1->c≠i2->s.heap.get? c=some q->g5.get? c=some q:=fun c q c1 c2 c3 c4 e=>
  e5.extBut _ _ c2 (e4.extBut _ _ c4 (e3.extBut _ _ c2 (e2.extBut _ _ c3 (e1.extBut _ _ c1 e))))
 have s15:st1 (k1+1) g5:=d1.keep _ _ _ h1' fun q e=>e5.extBut _ _ D.TOi1.symm (e4.extBut _ _ D.i12 (e3.extBut _ _ D.TOi1.symm e))
 have s25:st2 (k2+1) g5:=d2.keep _ _ _ h2' fun q e=>e5.extBut _ _ D.TOi2.symm e
 have zlt:z<g5.objs.size:=yY hZ5
 show wpAny _ _ (Builtin.SmallTypes.ownedTupleHandOut (.ref z) (.ref g5.objs.size) >>= _) _ _ _
 refine jX ?_
 unfold Builtin.SmallTypes.ownedTupleHandOut
 have hZ6:IsZip (g5.push { cls:=.type "tuple",data:=.seq #[x,y] }) z u o .ellipsis:=jK _ hZ5
 refine jX (wpAny_setField_rec hZ6 (by simp) fun g7 hZ7 e7=>?_)
 replace hZ7:IsZip g7 z u o (rawInt g5.objs.size):=hZ7
 refine wpAny_setField_rec hZ7 (by simp) fun g8 hZ8 e8=>?_
 replace hZ8:IsZip g8 z u o (rawInt g5.objs.size):=hZ8
 have up:∀c q,c≠z->g5.get? c=some q->g8.get? c=some q:=fun c q c1 e=>e8.extBut _ _ c1 (e7.extBut _ _ c1 (jK _ e))
 have hT8:IsPair g8 g5.objs.size x y:=e8.extBut _ _ (Nat.ne_of_gt zlt) (e7.extBut _ _ (Nat.ne_of_gt zlt) (yJ _ rfl))
 have hs8:g8.objs.size=g5.objs.size+1:=by rw[e8.1,e7.1,jJa]
 rw[hsz]at hZ8 hT8 hs8
 refine zX ⟨_,rfl,zX ?_⟩
 show Q (some (.ref g5.objs.size)) _
 rw[hsz]
 exact hQ g8 hZ8 (up _ _ D.TOz hO5) (d1.keep _ _ _ s15 fun q e=>up _ q D.i1z e) (d2.keep _ _ _ s25 fun q e=>up _ q D.i2z e) hT8 hs8 fun c q c1 c2 c3 c4 e=>up c q c1 (hk5 c q c1 c2 c3 c4 e)
theorem Qet{Q:Option Value->Shared->Prop}(hh:A.handled=none)(d1:Drw P w i1 l1 st1 src1)(d2:Drw P w i2 l2 st2 src2)(D:ZipApart z u o i1 i2 l1 l2)(hZ:IsZip s.heap z u o .none)(hU:IsPair s.heap u (.ref i1) (.ref i2))(hO:IsPair s.heap o a b)
  (h1:st1 k1 s.heap) (h2:st2 k2 s.heap) (hl1:src1 xs s.heap) (hl2:src2 ys s.heap) (hend:xs[k1]?=none\/ys[k2]?=none)
  (hQ:∀h',(∀c q,c≠z->c≠o->c≠i1->c≠i2->s.heap.get? c=some q->h'.get? c=some q)->Q none { s with heap:=h' }):wpAny (model P w) A (pyNext (.ref z)) Q E s:=by
 have hTy:s.TypeIs (.ref z) "zip":=⟨_,hZ,rfl⟩
 unfold pyNext
 have fin:∀(h':Heap) (e:Addr),(∀c q,c≠z->c≠o->c≠i1->c≠i2->s.heap.get? c=some q->h'.get? c=some q)->(∃o,h'.get? e=some o/\o.cls=.type "StopIteration") ->
   wpAny (model P w) A (isInstance (.ref e) (.type "StopIteration") >>= fun b=>if b=true then pure none else throw (Value.ref e)) Q E { s with heap:=h' }:=fun h' e hk he=>by
  obtain⟨q,hq,hc⟩:=he
  exact jX (wpAny_isInstance (T:="StopIteration") (b:=true) ⟨q,hq,hc⟩ isSubtype_stop (zX (hQ _ hk)))
 refine jX (wpAny_attempt (wpAny_callSpecial?_slot (name:=Str.ofString "__next__") hTy F.slot_zip_next (wpAny_call_entry F.slot_zip_next hTy F.entry_zip_next ?_ (F.args_zip_next_1 _))))
 show wpAny _ _ (field (.ref z) 2 >>= _) _ _ _
 refine jX (wpAny_field hZ rfl (x:=.bool false) rfl ?_)
 show wpAny _ _ (field (.ref z) 3 >>= _) _ _ _
 refine jX (wpAny_field hZ rfl (x:=.ref u) rfl (jX (wpAny_seqItems hU rfl ?_)))
 show wpAny _ _ (Builtin.SmallTypes.ownedTupleIsFree (.ref z) >>= _) _ _ _
 refine jX ?_
 unfold Builtin.SmallTypes.ownedTupleIsFree
 refine jX (wpAny_field hZ rfl (x:=.none) rfl (zX ?_))
 simp only[if_true]
 refine jX (wpAny_rule (jX (wpAny_field hZ rfl (x:=.ref o) rfl (jX (wpAny_setField_rec hZ (by simp) fun g1 hZ1 e1=>?_)))))
 replace hZ1:IsZip g1 z u o .ellipsis:=hZ1
 refine jX ?_
 simp only[List.zipIdx_cons,List.zipIdx_nil,List.forIn_cons,List.forIn_nil]
 refine jX (jX (wpAny_onRaise ?_))
 show wpAny _ _ (Builtin.SmallTypes.nextOf (.ref i1) >>= _) _ _ _
 cases hx:xs[k1]? with
 |none=>
  refine jX (d1.done _ _ { s with heap:=g1 } k1 xs _ hh (d1.keep _ _ _ h1 fun q e=>e1.extBut _ _ D.i1z e) (d1.srck _ _ _ hl1 fun q e=>e1.extBut _ _ D.l1z e) hx fun g2 e e2 he=>?_)
  obtain⟨qe,ge,ce⟩:=he
  have hZ2:IsZip g2 z u o .ellipsis:=e2 _ _ D.i1z.symm hZ1
  have hez:e≠z:=fun x=>by subst x;rw[hZ2]at ge;cases ge;simp at ce
  refine wpAny_setField_rec hZ2 (by simp) fun g3 _ e3=>?_
  exact fin g3 e (fun c q c1 _ c3 _ x=>e3.extBut _ _ c1 (e2 _ _ c3 (e1.extBut _ _ c1 x))) ⟨qe,e3.extBut _ _ hez ge,ce⟩
 |some x=>
  have hy:ys[k2]?=none:=hend.resolve_left fun h=>by rw[hx]at h;cases h
  refine jX (d1.item _ _ { s with heap:=g1 } k1 xs x _ (d1.keep _ _ _ h1 fun q e=>e1.extBut _ _ D.i1z e) (d1.srck _ _ _ hl1 fun q e=>e1.extBut _ _ D.l1z e) hx fun g2 h1' e2=>zX ?_)
  have hO2:IsPair g2 o a b:=e2.extBut _ _ D.TOi1 (e1.extBut _ _ D.TOz hO)
  refine jX (wpAny_seqItems hO2 rfl (jX (wpAny_updateSeq_pair hO2 fun g3 hO3 e3=>?_)))
  refine jX (wpAny_letGo (zX ?_))
  refine jX (jX (wpAny_onRaise ?_))
  show wpAny _ _ (Builtin.SmallTypes.nextOf (.ref i2) >>= _) _ _ _
  refine jX (d2.done _ _ { s with heap:=g3 } k2 ys _ hh (d2.keep _ _ _ h2 fun q e=>e3.extBut _ _ D.TOi2.symm (e2.extBut _ _ D.i12.symm (e1.extBut _ _ D.i2z e)))
   (d2.srck _ _ _ hl2 fun q e=>e3.extBut _ _ D.l2TO (e2.extBut _ _ D.l2i1 (e1.extBut _ _ D.l2z e))) hy fun g4 e e4 he=>?_)
  obtain⟨qe,ge,ce⟩:=he
  have hZ4:IsZip g4 z u o .ellipsis:=e4 _ _ D.i2z.symm (e3.extBut _ _ D.TOz.symm (e2.extBut _ _ D.i1z.symm hZ1))
  have hez:e≠z:=fun x=>by subst x;rw[hZ4]at ge;cases ge;simp at ce
  refine wpAny_setField_rec hZ4 (by simp) fun g5 _ e5=>?_
  exact fin g5 e (fun c q c1 c2 c3 c4 x=>e5.extBut _ _ c1 (e4 _ _ c4 (e3.extBut _ _ c2 (e2.extBut _ _ c3 (e1.extBut _ _ c1 x))))) ⟨qe,e5.extBut _ _ hez ge,ce⟩
end
def Kh(n:String)(l:Addr):Obj:={ cls:=.type n,data:=.fields #[.ref l,.int 0 0] }
structure Itr0(n:String)(l:Addr)(pr:Heap->Prop):Prop where
 go:∀(P:Program) (w:World) (A:Around) (E:Value->Shared->Prop) (s:Shared) (Q:Value->Shared->Prop),pr s.heap->Q (.ref s.heap.objs.size) { s with heap:=s.heap.push (Kh n l) }->wpAny (model P w) A (pyIter (.ref l)) Q E s
 push:∀h o,pr h->pr (h.push o)
theorem Qjq(l:Addr)(xs:Array Value):Itr0 "list_iterator" l (fun h=>h.IsList l xs):=⟨fun _ _ _ _ _ _ hl h=>wpAny_pyIter_list hl h,fun _ _ hl=>hl.push _⟩
theorem Qnc(l:Addr)(xs:Array Value):Itr0 "tuple_iterator" l (fun h=>h.IsTuple l xs):=⟨fun _ _ _ _ _ _ hl h=>wpAny_pyIter_tuple hl h,fun _ _ hl=>hl.push _⟩
def zH1(h:Heap)(n1:String)(l1:Addr):Heap:=h.push (Kh n1 l1)
def zH2(h:Heap)(n1 n2:String)(l1 l2:Addr):Heap:=(zH1 h n1 l1).push (Kh n2 l2)
def zH3(h:Heap)(n1 n2:String)(l1 l2:Addr):Heap:=(zH2 h n1 n2 l1 l2).push { cls:=.type "tuple",data:=.seq #[.ref h.objs.size,.ref (zH1 h n1 l1).objs.size] }
def zH4(h:Heap)(n1 n2:String)(l1 l2:Addr):Heap:=(zH3 h n1 n2 l1 l2).push { cls:=.type "tuple",data:=.seq #[.none,.none] }
def zH5(h:Heap)(n1 n2:String)(l1 l2:Addr):Heap:=(zH4 h n1 n2 l1 l2).push { cls:=.type "zip",data:=.fields #[.none,.bool false,.bool false,.ref (zH2 h n1 n2 l1 l2).objs.size,.ref (zH3 h n1 n2 l1 l2).objs.size] }
theorem Qjr{n1 n2:String}{l1 l2:Addr}{p1 p2:Heap->Prop}(I1:Itr0 n1 l1 p1)(I2:Itr0 n2 l2 p2) :
  Meets (Builtin.«zip.__new__» ⟨[.type "zip",.ref l1,.ref l2],[]⟩) (fun _ R s=>p1 s.heap/\p2 s.heap/\R (.ok (.ret (.ref (zH4 s.heap n1 n2 l1 l2).objs.size))) { s with heap:=zH5 s.heap n1 n2 l1 l2 }) :=
 .of_wp fun prog w A R s h=>by
  obtain⟨hp,g,d,tk,os⟩:=s
  obtain⟨q1,q2,h⟩:=h
  have hsub:=sub_zip
  have f1:=fun(A:Around) (E:Value->Shared->Prop) (Q:Value->Shared->Prop)=>I1.go prog w A E ⟨hp,g,d,tk,os⟩ Q q1
  have f2:=fun(A:Around) (E:Value->Shared->Prop) (Q:Value->Shared->Prop)=>I2.go prog w A E ⟨hp.push (Kh n1 l1),g,d,tk,os⟩ Q (I2.push _ _ q2)
  wp_walk using f1 _ _ _,f2 _ _ _
  exact⟨_,rfl,h⟩
def Sq(K:Fg)(m:Bool)(H:Hp)(a:Addr)(xs:List V):Prop:=if m=true then SqL K H a xs else SqT K H a xs
def itN(m:Bool):String:=if m=true then "list_iterator" else "tuple_iterator"
def itSt(m:Bool)(it l:Addr)(i:Nat)(h:Heap):Prop:=if m=true then h.IsListIter it l i else h.IsTupleIter it l i
def Qhg(m:Bool)(l:Addr)(xs:List Value)(h:Heap):Prop:=if m=true then h.IsList l xs.toArray else h.IsTuple l xs.toArray
theorem Yz{P:Program}{w:World}(m:Bool)(it l:Addr):Drw P w it l (itSt m it l) (Qhg m l):=by
 cases m
 .exact Qrm it l
 .exact Qnb it l
theorem Qeu(m:Bool)(l:Addr)(xs:List Value):Itr0 (itN m) l (Qhg m l xs):=by
 cases m
 .exact Qnc l xs.toArray
 .exact Qjq l xs.toArray
theorem Qbp(m:Bool){h:Heap}{it l:Addr}(e:h.get? it=some (Kh (itN m) l)):itSt m it l 0 h:=by
 cases m
 .exact⟨_,e,rfl,rfl⟩
 .exact⟨_,e,rfl,rfl⟩
section
variable{X:Cx}{pins:List (Addr×Obj)}{σ:St}{H:Hp}{s:Shared}
theorem Inv.sq{m:Bool}{a:Addr}{xs:List V}(I:Inv X pins σ H s)(h:Sq X.K m H a xs):∃its:List Value,Vals xs its/\Qhg m a its s.heap/\xs.length<=sizeLine:=by
 cases m
 .obtain⟨its,rv,p,hz⟩:=I.tuple h
  exact⟨its,rv,p,by first | exact hz | lia⟩
 .obtain⟨its,rv,p,hz⟩:=I.list h
  exact⟨its,rv,p.isList,by first | exact hz | lia⟩
theorem Inv.sq_inj{m:Bool}{a:Addr}{xs ys:List V}(I:Inv X pins σ H s)(h:Sq X.K m H a xs)(h':Sq X.K m H a ys):xs=ys:=by
 cases m
 .exact I.tuple_inj h h'
 .exact I.list_inj h h'
theorem Inv.tupNew{xs:List V}{its:List Value}{h':Heap}{ch:List Addr}{T:Addr}(I:Inv X pins σ H s)(hT:s.heap.objs.size<=T)(r:Vals xs its)(hz:xs.length<=sizeLine)(e:h'.get? T=some { cls:=.type "tuple",data:=.seq its.toArray })
  (hf:∀b∈ch,FpOk X pins H b) (k:∀b o,b∉ch->s.heap.get? b=some o->h'.get? b=some o) (th:∀b∈ch,∃o,h'.get? b=some o):Inv X pins σ (upd H T (.tup xs)) { s with heap:=h' }:=by
 have hn:H T=none:=I.hok.fresh hT
 have tr:∀b o,H b=some o->b∉ch:=fun b o e z=>by rw[(hf b z).1]at e;cases e
 refine I.step (g':=s.gens) (t':=s.toks) (d':=s.drawn) (ch:=ch) (fun b hb=>⟨(hf b hb).2.2.2.1,(hf b hb).2.1,(hf b hb).2.2.2.2.1,(hf b hb).2.2.2.2.2⟩) (fun b o _ _ hc q _=>k b o hc q) (fun b o _ _ hc q _=>⟨o.slots,k b o hc q⟩) (fun b o _ q n=>?_) (fun b o hc q=>⟨o,k b o hc q⟩)
  (fun b xs q=>?_) (fun b o u q=>?_) (fun b ps q=>⟨#[],?_⟩) (fun m hm=>?_) (fun b ob q=>?_) I.bare
 .rw[Qj (zJ (xY (yY q) hT))];exact n
 .rw[Qj (Qk q hn)];exact q
 .rw[Qj (Qk q hn)];exact q
 .rw[Qj (Qk q hn),Array.append_empty];exact q
 .obtain⟨o,es,ep,q,d,r⟩:=hm
  exact⟨o,es,ep,k _ o (fun z=>(hf _ z).2.1 rfl) q,d,r⟩
 .by_cases hb:b=T
  .subst hb
   rw[Qc]at q;cases q
   exact⟨hz,its,r,_,e,rfl,_,rfl⟩
  .rw[Qj hb]at q
   refine(I.hok b ob q).stay (fun c v hc r=>k c v ?_ r) (fun c r=>by rw[Qj (Qk r hn)];exact r) fun c xs r=>by rw[Qj (Qk r hn)];exact r
   rcases hc with rfl | hc
   .exact tr _ _ q
   .exact tr _ _ hc
end
def Itz(K:Fg)(m1 m2:Bool)(a b:Addr):It :=
  ⟨fun i H=>∃xs ys x y,Sq K m1 H a xs/\Sq K m2 H b ys/\xs[i]?=some x/\ys[i]?=some y,
   fun i H v H'=>∃T x y,v=.ref T/\H T=none/\H'=upd H T (.tup [x,y])/\(∀xs,Sq K m1 H a xs->xs[i]?=some x)/\∀ys,Sq K m2 H b ys->ys[i]?=some y,
   fun i H=>∃xs ys,Sq K m1 H a xs/\Sq K m2 H b ys/\(xs.length<=i\/ys.length<=i)⟩
def zTn(m1 m2:Bool)(z u o i1 i2 a b:Addr)(i:Nat)(h:Heap):Prop:=IsZip h z u o .none/\IsPair h u (.ref i1) (.ref i2)/\(∃p q,IsPair h o p q)/\itSt m1 i1 a i h/\itSt m2 i2 b i h
theorem Qnd{P:Program}{w:World}{K:Fg}{es:List Expr}{kk:Nat}{tp:Pos}{m1 m2:Bool}{z u o i1 i2 a b:Addr}(D:ZipApart z u o i1 i2 a b) :
  Turn P w K (.Tuple es kk tp) (Itz K m1 m2 a b) [z,u,o,i1,i2] z (zTn m1 m2 z u o i1 i2 a b) where
 mem:=by simp
 obj:=fun i h st c hc=>by
  obtain⟨h1,h2,⟨p,q,h3⟩,h4,h5⟩:=st
  simp only[kQ,wV,or_false]at hc
  rcases hc with rfl | rfl | rfl | rfl | rfl
  .exact⟨_,h1,fun v z=>by cases z⟩
  .exact⟨_,h2,fun v z=>by cases z⟩
  .exact⟨_,h3,fun v z=>by cases z⟩
  .exact(Yz (P:=P) (w:=w) m1 c a).obj i h h4
  .exact(Yz (P:=P) (w:=w) m2 c b).obj i h h5
 keep:=fun i h h' st k=>by
  obtain⟨h1,h2,⟨p,q,h3⟩,h4,h5⟩:=st
  exact⟨k z (by simp) _ h1,k u (by simp) _ h2,⟨p,q,k o (by simp) _ h3⟩,(Yz (P:=P) (w:=w) m1 i1 a).keep i h h' h4 (k i1 (by simp)),(Yz (P:=P) (w:=w) m2 i2 b).keep i h h' h5 (k i2 (by simp))⟩
 item:=by
  intro X hP hw hK hc i pins s σ H E I hf st hg
  subst hP hw hK
  obtain⟨xs,ys,x,y,q1,q2,hx,hy⟩:=hg
  obtain⟨is1,r1,p1,z1⟩:=I.sq q1
  obtain⟨is2,r2,p2,z2⟩:=I.sq q2
  obtain⟨v1,e1,rv1⟩:=r1.get hx
  obtain⟨v2,e2,rv2⟩:=r2.get hy
  obtain⟨hZ,hU,⟨p,q,hO⟩,s1,s2⟩:=st
  refine Qdk (Yz m1 i1 a) (Yz m2 i2 b) D hZ hU hO s1 s2 p1 p2 e1 e2 fun h' a1 a2 a3 a4 a5 a6 a7=>⟨_,rfl,?_⟩
  have hf':∀c∈[z,o,i1,i2],FpOk X pins H c:=fun c hc=>hf c (by simp only[kQ,wV,or_false]at hc⊢;rcases hc with rfl | rfl | rfl | rfl<;>simp)
  have I1:Inv X pins σ (upd H s.heap.objs.size (.tup [x,y])) { s with heap:=h' }:=I.tupNew (ch:=[z,o,i1,i2]) (jY _) (.cons rv1 (.cons rv2 .nil)) (by show 2<=sizeLine;decide) a5 hf'
   (fun c q hc e=>by simp only[kQ,wV,or_false,not_or]at hc;exact a7 c q hc.1 hc.2.1 hc.2.2.1 hc.2.2.2 e)
   (fun c hc=>by
    simp only[kQ,wV,or_false]at hc
    rcases hc with rfl | rfl | rfl | rfl
    .exact⟨_,a1⟩
    .exact⟨_,a2⟩
    .obtain⟨q,e,_⟩:=(Yz (P:=X.prog) (w:=X.w) m1 c a).obj _ _ a3;exact⟨q,e⟩
    .obtain⟨q,e,_⟩:=(Yz (P:=X.prog) (w:=X.w) m2 c b).obj _ _ a4;exact⟨q,e⟩)
  refine wpAny_letOwnedTupleGo_zip (s:={ s with heap:=h' }) a1 fun h2 g1 g2=>?_
  obtain⟨f0,f1,f2,f3,f4,f5⟩:=hf z (by simp)
  have ltz:z<s.heap.objs.size:=yY hZ
  have I2:Inv X pins σ (upd H s.heap.objs.size (.tup [x,y])) { s with heap:=h2 }:=I1.turned (h':=h2) (t':=s.toks) (fun c q hc e=>g2.extBut c q hc e) (by rw[Qj (zJ ltz)];exact f0) f1 f3 f4 f5
  have hU':IsPair h' u (.ref i1) (.ref i2):=a7 u _ D.TIz D.TITO D.TIi1 D.TIi2 hU
  refine⟨.ref s.heap.objs.size,_,I2,rfl,⟨_,x,y,rfl,I.hok.fresh (jY _),rfl,fun xs' hq=>by rw[I.sq_inj hq q1];exact hx,fun ys' hq=>by rw[I.sq_inj hq q2];exact hy⟩,?_,fun c hc=>?_⟩
  .exact⟨g1,g2.extBut _ _ D.TIz hU',⟨_,_,g2.extBut _ _ D.TOz a2⟩,(Yz (P:=X.prog) (w:=X.w) m1 i1 a).keep _ _ _ a3 fun q e=>g2.extBut _ _ D.i1z e,(Yz (P:=X.prog) (w:=X.w) m2 i2 b).keep _ _ _ a4 fun q e=>g2.extBut _ _ D.i2z e⟩
  .have hlt:c≠s.heap.objs.size:=by
    have st':zTn m1 m2 z u o i1 i2 a b i s.heap:=⟨hZ,hU,⟨p,q,hO⟩,s1,s2⟩
    simp only[kQ,wV,or_false]at hc
    rcases hc with rfl | rfl | rfl | rfl | rfl
    .exact zJ ltz
    .exact zJ (yY hU)
    .exact zJ (yY hO)
    .obtain⟨q,e,_⟩:=(Yz (P:=X.prog) (w:=X.w) m1 c a).obj _ _ s1;exact zJ (yY e)
    .obtain⟨q,e,_⟩:=(Yz (P:=X.prog) (w:=X.w) m2 c b).obj _ _ s2;exact zJ (yY e)
   rw[Qj hlt]
   exact(hf c hc).1
 done:=by
  intro X hP hw hK hc i pins s σ H E I hf st hg
  subst hP hw hK
  obtain⟨xs,ys,q1,q2,hx⟩:=hg
  obtain⟨is1,r1,p1,z1⟩:=I.sq q1
  obtain⟨is2,r2,p2,z2⟩:=I.sq q2
  obtain⟨hZ,hU,⟨p,q,hO⟩,s1,s2⟩:=st
  have l1:=r1.length
  have l2:=r2.length
  refine Qet (I.ok.hd hc) (Yz m1 i1 a) (Yz m2 i2 b) D hZ hU hO s1 s2 p1 p2 (by
   rcases hx with h | h
   .exact .inl (jQd.mpr Om)
   .exact .inr (jQd.mpr Om)) fun h' k=>⟨rfl,?_⟩
  have hf':∀c∈[z,o,i1,i2],FpOk X pins H c:=fun c hc=>hf c (by simp only[kQ,wV,or_false]at hc⊢;rcases hc with rfl | rfl | rfl | rfl<;>simp)
  have tr:∀c q,H c=some q->c∉[z,o,i1,i2]:=fun c q e y=>by rw[(hf' c y).1]at e;cases e
  have kk:∀c q,c∉[z,o,i1,i2]->s.heap.get? c=some q->h'.get? c=some q:=fun c q hc e=>by
   simp only[kQ,wV,or_false,not_or]at hc
   exact k c q hc.1 hc.2.1 hc.2.2.1 hc.2.2.2 e
  refine I.step (g':=s.gens) (t':=s.toks) (d':=s.drawn) (ch:=[z,o,i1,i2]) (fun b hb=>⟨(hf' b hb).2.2.2.1,(hf' b hb).2.1,(hf' b hb).2.2.2.2.1,(hf' b hb).2.2.2.2.2⟩) (fun b o _ _ hc q _=>kk b o hc q) (fun b o _ _ hc q _=>⟨o.slots,kk b o hc q⟩) (fun b o _ q n=>n) (fun b o hc q=>⟨o,kk b o hc q⟩)
   (fun b xs q=>q) (fun b o u q=>q) (fun b ps q=>⟨#[],by rw[Array.append_empty];exact q⟩) (fun m hm=>?_) (fun b ob q=>?_) I.bare
  .obtain⟨o,es,ep,q,d,r⟩:=hm
   exact⟨o,es,ep,kk _ o (fun z=>(hf' _ z).2.1 rfl) q,d,r⟩
  .refine(I.hok b ob q).stay (fun c v hc r=>kk c v ?_ r) (fun c r=>r) fun c xs r=>r
   rcases hc with rfl | hc
   .exact tr _ _ q
   .exact tr _ _ hc
 self:=fun _ _ _ _ _ st h=>wpAny_pyIter_zip st.1 h
section
variable{X:Cx}
def iZip(K:Fg)(m1 m2:Bool)(ta:TA):TI:=fun σ H R=>ta σ H fun vs H1=>∃a b,vs=[.ref a,.ref b]/\(∃xs,Sq K m1 H1 a xs)/\(∃ys,Sq K m2 H1 b ys)/\R (Itz K m1 m2 a b) H1
theorem Qjs{P:Program}{w:World}{A:Around}{E:Value->Shared->Prop}{s:Shared}{m1 m2:Bool}{a b:Addr}{xs ys:List Value}{Q:Value->Shared->Prop}(h1:Qhg m1 a xs s.heap)(h2:Qhg m2 b ys s.heap)
  (h:∀h',IsZip h' (s.heap.objs.size+4) (s.heap.objs.size+2) (s.heap.objs.size+3) .none->IsPair h' (s.heap.objs.size+2) (.ref s.heap.objs.size) (.ref (s.heap.objs.size+1))->IsPair h' (s.heap.objs.size+3) .none .none ->
   itSt m1 s.heap.objs.size a 0 h'->itSt m2 (s.heap.objs.size+1) b 0 h'->(∀c o,s.heap.get? c=some o->h'.get? c=some o)->Q (.ref (s.heap.objs.size+4)) { s with heap:=h' }) :
  wpAny (model P w) A (call (.type "zip") [.ref a,.ref b]) Q E s:=by
 refine callType_new F.called_zip Dc (F.typeCall_zip_2 _ _) (F.newCall_zip_2 _ _) (fun obj=>F.args_object_init_3 obj _ _) F.entry_zip_new (Qjr (Qeu m1 a xs) (Qeu m2 b ys)) ⟨h1,h2,?_⟩
 have z1:(zH1 s.heap (itN m1) a).objs.size=s.heap.objs.size+1:=jJa ..
 have z2:(zH2 s.heap (itN m1) (itN m2) a b).objs.size=s.heap.objs.size+2:=by unfold zH2;rw[jJa,z1]
 have z3:(zH3 s.heap (itN m1) (itN m2) a b).objs.size=s.heap.objs.size+3:=by unfold zH3;rw[jJa,z2]
 have z4:(zH4 s.heap (itN m1) (itN m2) a b).objs.size=s.heap.objs.size+4:=by unfold zH4;rw[jJa,z3]
 have g5:(zH5 s.heap (itN m1) (itN m2) a b).get? (zH4 s.heap (itN m1) (itN m2) a b).objs.size=some { cls:=.type "zip",data:=.fields #[.none,.bool false,.bool false,.ref (zH2 s.heap (itN m1) (itN m2) a b).objs.size,.ref (zH3 s.heap (itN m1) (itN m2) a b).objs.size] }:=yJ _ rfl
 have up4:∀c o,(zH4 s.heap (itN m1) (itN m2) a b).get? c=some o->(zH5 s.heap (itN m1) (itN m2) a b).get? c=some o:=fun c o e=>jK _ e
 have up3:∀c o,(zH3 s.heap (itN m1) (itN m2) a b).get? c=some o->(zH5 s.heap (itN m1) (itN m2) a b).get? c=some o:=fun c o e=>up4 c o (jK _ e)
 have up2:∀c o,(zH2 s.heap (itN m1) (itN m2) a b).get? c=some o->(zH5 s.heap (itN m1) (itN m2) a b).get? c=some o:=fun c o e=>up3 c o (jK _ e)
 have up1:∀c o,(zH1 s.heap (itN m1) a).get? c=some o->(zH5 s.heap (itN m1) (itN m2) a b).get? c=some o:=fun c o e=>up2 c o (jK _ e)
 have g4:(zH5 s.heap (itN m1) (itN m2) a b).get? (zH3 s.heap (itN m1) (itN m2) a b).objs.size=some { cls:=.type "tuple",data:=.seq #[.none,.none] }:=up4 _ _ (yJ _ rfl)
 have g3:(zH5 s.heap (itN m1) (itN m2) a b).get? (zH2 s.heap (itN m1) (itN m2) a b).objs.size=some { cls:=.type "tuple",data:=.seq #[.ref s.heap.objs.size,.ref (zH1 s.heap (itN m1) a).objs.size] }:=up3 _ _ (yJ _ rfl)
 have g2:(zH5 s.heap (itN m1) (itN m2) a b).get? (zH1 s.heap (itN m1) a).objs.size=some (Kh (itN m2) b):=up2 _ _ (yJ _ rfl)
 have g1:(zH5 s.heap (itN m1) (itN m2) a b).get? s.heap.objs.size=some (Kh (itN m1) a):=up1 _ _ (yJ _ rfl)
 show _/\_
 rw[z2,z3,z4]at g5
 rw[z1,z2]at g3
 rw[z3]at g4
 rw[z1]at g2
 rw[z4]
 exact⟨⟨_,g5,rfl⟩,h _ g5 g3 g4 (Qbp m1 g1) (Qbp m2 g2) fun c o x=>up1 c o (jK _ x)⟩
theorem Qjt{n l1 l2:Addr}(h1:l1<n)(h2:l2<n):ZipApart (n+4) (n+2) (n+3) n (n+1) l1 l2:=by
 have h1':@LT.lt Nat _ l1 n:=h1
 have h2':@LT.lt Nat _ l2 n:=h2
 constructor<;>(show @Ne Nat _ _)<;>lia
theorem Qbq{m:Bool}{a:Addr}{xs:List Value}{h:Heap}(e:Qhg m a xs h):a<h.objs.size:=by
 cases m
 .obtain⟨o,e,_⟩:=e;exact yY e
 .obtain⟨o,e,_⟩:=e;exact yY e
theorem Qax{a b:Expr}{ta:TA}{p pos tp:Pos}{es:List Expr}{kk:Nat}(m1 m2:Bool)(hg:Gl X "zip")(hm:X.mg "zip"=none)(ha:PA X [a,b] ta)(hs:autoParam (starEach [a,b] X.env=[(false,eval a X.env),(false,eval b X.env)]) L2.aRfl._auto_1)(hs2:autoParam (starEach [b] X.env=[(false,eval b X.env)]) L2.aRfl._auto_1) :
  PI X (.Tuple es kk tp) (.Call (.Name "zip" p) [a,b] [] pos) (iZip X.K m1 m2 ta):=by
 intro pins s σ H R I h
 refine Call_ (Vr I hg hm (u:=.type "zip") (by rfl) (PyProof.Rows.callWith_type1 (thn (ha pos pins s σ H _ I h) fun us s1 hqP=>?_) (by rw[hs,hs2]) (by rw[hs2];rfl)))
 obtain⟨vs,H1,I1,r1,q1⟩:=hqP
 obtain⟨l1,l2,e,⟨xs,q1⟩,⟨ys,q2⟩,q⟩:=q1
 subst e
 obtain⟨u1,u2,rfl,e1,e2⟩:=r1.two
 cases e1
 cases e2
 obtain⟨is1,r1,p1,z1⟩:=I1.sq q1
 obtain⟨is2,r2,p2,z2⟩:=I1.sq q2
 refine Qjs p1 p2 fun h' a1 a2 a3 a4 a5 a6=>?_
 have I2:Inv X pins σ H1 { s1 with heap:=h' }:=I1.kept (t':=s1.toks) a6
 refine wpAny_pyIter_zip (s:={ s1 with heap:=h' }) a1 ⟨_,[s1.heap.objs.size+4,s1.heap.objs.size+2,s1.heap.objs.size+3,s1.heap.objs.size,s1.heap.objs.size+1],_,_,H1,rfl,I2,Qnd (Qjt (Qbq p1) (Qbq p2)),⟨a1,a2,⟨_,_,a3⟩,a4,a5⟩,fun c hc=>?_,q⟩
 have hle:s1.heap.objs.size<=c:=by
  simp only[kQ,wV,or_false]at hc
  rcases hc with rfl | rfl | rfl | rfl | rfl
  .exact kYd _ _
  .exact kYd _ _
  .exact kYd _ _
  .exact jY _
  .exact kYd _ _
 exact I1.fpOk hle (I1.hok.fresh hle)
end
section
variable{X:Cx}
def isiV(K:Fg)(H:Hp):V->String->Bool->Prop
 |.int _,T,b=>(T="int"/\b=true)\/(T="bool"/\b=false)\/(T="tuple"/\b=false)
 |.bl _,T,b=>(T="int"/\b=true)\/(T="bool"/\b=true)\/(T="tuple"/\b=false)
 |.ref a,T,b=>(∃xs,SqT K H a xs)/\((T="tuple"/\b=true)\/(T="int"/\b=false)\/(T="bool"/\b=false))
 |_,_,_=>False
theorem Qfx:Zv X (.builtin "isinstance") (fun xs H Q=>∃x T b,xs=[x,.ty T]/\isiV X.K H x T b/\Q (.bl b) H):=by
 intro pins s σ H xs us Q I rv h
 obtain⟨x,T,b,rfl,hi,q⟩:=h
 obtain⟨u,v,rfl,ru,rT⟩:=rv.two
 cases rT
 have fin:∀(tk:Nat),EP X pins σ Q (.bool b) { s with toks:=tk }:=fun tk=>⟨.bl b,H,I.tok tk,rfl,q⟩
 cases x with
 |int n=>
  obtain⟨t,rfl⟩:=ru
  rcases hi with⟨rfl,rfl⟩ | ⟨rfl,rfl⟩ | ⟨rfl,rfl⟩
  .exact IsiPair.int_int (fin s.toks)
  .exact IsiPair.int_bool (fin _)
  .exact IsiPair.int_tuple (fin _)
 |bl n=>
  cases ru
  rcases hi with⟨rfl,rfl⟩ | ⟨rfl,rfl⟩ | ⟨rfl,rfl⟩
  .exact IsiPair.bool_int (fin s.toks)
  .exact IsiPair.bool_bool (fin s.toks)
  .exact IsiPair.bool_tuple (fin _)
 |ref a=>
  cases ru
  obtain⟨⟨xs,hq⟩,hi⟩:=hi
  obtain⟨its,r,⟨o,e,c,_⟩,_⟩:=I.tuple hq
  rcases hi with⟨rfl,rfl⟩ | ⟨rfl,rfl⟩ | ⟨rfl,rfl⟩
  .exact IsiPair.tuple_tuple e c (fin s.toks)
  .exact IsiPair.tuple_int e c (fin _)
  .exact IsiPair.tuple_bool e c (fin _)
 |non=>exact hi.elim
 |str _=>exact hi.elim
 |byt _=>exact hi.elim
 |flt _=>exact hi.elim
 |ty _=>exact hi.elim
def CDivB(i j:Int):Prop:=0<j/\j.natAbs.log2<9000
theorem Qne:OpR X (binaryOp .FloorDiv) (rI CDivB fun i j=>.int (i / j)):=opI fun i j _ _ _ _ _ hc q=>by
 refine floordiv_int (Int.ne_of_gt hc.1) ?_ (.inl (PyProof.noPylong_of_log2 hc.2))
 rw[Int.fdiv_eq_ediv_of_nonneg _ (Int.le_of_lt hc.1)]
 exact q
theorem Zy(hc:X.calm=true):Zv X (.builtin "sum") (fun xs H Q=>∃(a:Addr) (ns:List Int),xs=[.ref a]/\SqL X.K H a (ns.map V.int)/\Q (.int ns.sum) H):=by
 intro pins s σ H xs us Q I rv h
 obtain⟨a,ns,rfl,hq,q⟩:=h
 obtain⟨u,rfl,ru⟩:=rv.one
 cases ru
 obtain⟨its,r,p,hz⟩:=I.list hq
 have hi:IntsAre its.toArray.toList ns:=intsAre_of r
 have hall:AllInts its.toArray:=hi.allInts
 obtain⟨xs,hx⟩:=hall.items
 have hl':s.heap.IsList a (intItems xs):=hx▸p.isList
 refine sum_intListG (I.ok.hd hc) hl' fun h' tk t' hk=>?_
 have e1:ns=xs.toList.map (·.1):=by
  rw[<-nums_intItems,<-hx]
  exact(show numsOf its.toArray.toList=ns from hi.numsOf).symm
 have e2:preSum (numAt xs) xs.size=ns.sum:=by
  rw[preSum_eq,jXc (by simp),e1]
 rw[e2]
 exact⟨.int ns.sum,H,I.kept hk,⟨_,rfl⟩,q⟩
theorem Qrn{bs:List Bool}{its:List Value}(r:Vals (bs.map V.bl) its){i:Nat}{v:Value}(h:its[i]?=some v):∃b,bs[i]?=some b/\v=.bool b:=by
 have hl:=r.length
 obtain⟨hi,_⟩:=jW.mp h
 rw[jQ]at hl
 have hb:bs[i]?=some bs[i]:=gE Om
 obtain⟨u,h1,h2⟩:=r.get (i:=i) (x:=.bl bs[i]) (by rw[jJ,hb];rfl)
 rw[h]at h1;cases h1
 exact⟨_,hb,h2⟩
theorem Qnf(bs:List Bool):((List.range bs.length).all fun i=>(bs[i]?).getD true)=bs.all id:=by
 rw[kQa]
 simp only[jJe,xX,id]
 constructor
 .intro h b hb
  obtain⟨i,hi,e⟩:=kZd hb
  have:=h i hi
  rw[gE hi]at this
  simpa[e]using this
 .intro h i hi
  rw[gE hi]
  exact h _ (jQf hi)
theorem Qro{h h':Heap}{o:Obj}(hk:∀b x,b∉[h.objs.size]->(h.push o).get? b=some x->h'.get? b=some x):∀b x,h.get? b=some x->h'.get? b=some x:=fun b x e=>
 hk b x (fun hm=>by rw[yW.mp hm]at e;exact wW _ (yY e)) (jK _ e)
theorem Ky(hc:X.calm=true):Zv X (.builtin "all") (fun xs H Q=>∃(a:Addr) (bs:List Bool),xs=[.ref a]/\SqL X.K H a (bs.map V.bl)/\Q (.bl (bs.all id)) H):=by
 intro pins s σ H xs us Q I rv h
 obtain⟨a,bs,rfl,hq,q⟩:=h
 obtain⟨u,rfl,ru⟩:=rv.one
 cases ru
 obtain⟨its,r,p,hz⟩:=I.list hq
 have hlt:a<s.heap.objs.size:=by obtain⟨_,e,_⟩:=p.isList;exact yY e
 have hl:=r.length
 rw[jQ]at hl
 refine call_all_walk (wpAny_pyIter_list p.isList ?_)
 refine⟨s.heap.objs.size,[s.heap.objs.size,a],[s.heap.objs.size],its.toArray.size,_,_,fun i=>(bs[i]?).getD true,rfl,Walks.list (A:=X.A.in1) (I.ok.hd hc) _ a (zJ hlt) its.toArray,⟨⟨_,yJ _ rfl,rfl,rfl⟩,p.isList.push _⟩,fun i v s' Q' E' hP hQ=>?_,fun h' tk hk=>?_⟩
 .obtain⟨b,e,rfl⟩:=Qrn r (by simpa using hP)
  simp only[e,Option.getD_some]at hQ
  exact wpAny_truthy_bool hQ
 .rw[kX,<-hl,Qnf]
  exact⟨.bl (bs.all id),H,I.kept (Qro hk),rfl,q⟩
end
inductive D where
 |non | bl (b:Bool) | int (i:Int) | tup (xs:List D) | lst (xs:List D)
inductive HasD (K:Fg) (H:Hp):V->D->Prop
 |non:HasD K H .non .non
 |bl (b):HasD K H (.bl b) (.bl b)
 |int (i):HasD K H (.int i) (.int i)
 |tup {a vs xs}:SqT K H a vs->vs.length=xs.length->(∀(i:Nat) v x,vs[i]?=some v->xs[i]?=some x->HasD K H v x)->HasD K H (.ref a) (.tup xs)
 |lst {a vs xs}:SqL K H a vs->vs.length=xs.length->(∀(i:Nat) v x,vs[i]?=some v->xs[i]?=some x->HasD K H v x)->HasD K H (.ref a) (.lst xs)
inductive Alike:Nat->D->D->Prop
 |non {n}:Alike n .non .non
 |bl {n} (a b):Alike n (.bl a) (.bl b)
 |int {n} (a b):Alike n (.int a) (.int b)
 |tup {n xs ys}:(∀(i:Nat) x y,xs[i]?=some x->ys[i]?=some y->Alike n x y)->Alike (n+1) (.tup xs) (.tup ys)
 |lst {n xs ys}:(∀(i:Nat) x y,xs[i]?=some x->ys[i]?=some y->Alike n x y)->Alike (n+1) (.lst xs) (.lst ys)
section
variable{X:Cx}{pins:List (Addr×Obj)}{σ:St}{H:Hp}{s:Shared}
theorem Qbr{α:Type}{xs ys:List α}(hl:xs.length=ys.length)(h:∀(i:Nat) x y,xs[i]?=some x->ys[i]?=some y->x=y):xs=ys:=by
 refine kJd fun i=>?_
 by_cases hi:i<xs.length
 .rw[gE hi,gE (by lia:i<ys.length)]
  exact congrArg some (h i _ _ (gE hi) (gE Om))
 .rw[kQd Om,kQd Om]
theorem Inv.noTL{a:Addr}{xs ys:List V}(I:Inv X pins σ H s)(h:SqT X.K H a xs)(h':SqL X.K H a ys):False:=by
 obtain⟨_,_,⟨o,e,c,_⟩,_⟩:=I.tuple h
 obtain⟨_,_,p,_⟩:=I.list h'
 obtain⟨o',e',c',_⟩:=p.isList
 rw[e]at e';cases e'
 rw[c]at c'
 injection c' with z
 exact absurd z Dc
theorem Qfy(I:Inv X pins σ H s){x:V}{d:D}(h:HasD X.K H x d):∀e,HasD X.K H x e->d=e:=by
 induction h with
 |non=>intro e h;cases h;rfl
 |bl b=>intro e h;cases h;rfl
 |int i=>intro e h;cases h;rfl
 |tup hq hl hs ih=>
  intro e h
  cases h with
  |tup hq' hl' hs'=>
   obtain rfl:=I.tuple_inj hq hq'
   refine congrArg D.tup (Qbr (hl.symm.trans hl') fun i x y ex ey=>?_)
   have hi:i<_:=(jW.mp ex).1
   rw[<-hl]at hi
   exact ih i _ x (gE hi) ex y (hs' i _ y (gE hi) ey)
  |lst hq' hl' hs'=>exact(I.noTL hq hq').elim
 |lst hq hl hs ih=>
  intro e h
  cases h with
  |lst hq' hl' hs'=>
   obtain rfl:=I.list_inj hq hq'
   refine congrArg D.lst (Qbr (hl.symm.trans hl') fun i x y ex ey=>?_)
   have hi:i<_:=(jW.mp ex).1
   rw[<-hl]at hi
   exact ih i _ x (gE hi) ex y (hs' i _ y (gE hi) ey)
  |tup hq' hl' hs'=>exact(I.noTL hq' hq).elim
theorem Qfz{n:Nat}{e:Nat->Bool}:(List.range n).all e=true↔∀i,i<n->e i=true:=by simp[jJe]
open PySem.SeqAt Classical in
theorem Qpr{n:Nat}{d e:D}(h:Alike n d e):∀{A:Around} {x y:V} {u v:Value},A.units+n<cLine->Inv X pins σ H s->RelV x u->RelV y v->HasD X.K H x d->HasD X.K H y e ->
  ∃b:Bool,(b=true↔d=e)/\EqAt A s u v b/\(∀a c,u=.ref a->v=.ref c->RcAt A s u v b/\RcNeAt A s u v (!b)):=by
 induction h with
 |non=>
  intro A x y u v hu I ru rv hd he
  cases hd
  cases he
  cases ru
  cases rv
  exact⟨true,by simp,EqAt.same _,fun a c e _=>nomatch e⟩
 |bl a b=>
  intro A x y u v hu I ru rv hd he
  cases hd
  cases he
  cases ru
  cases rv
  exact⟨a == b,by simp,EqAt.bool_bool a b,fun a c e _=>nomatch e⟩
 |int a b=>
  intro A x y u v hu I ru rv hd he
  cases hd
  cases he
  obtain⟨t,rfl⟩:=ru
  obtain⟨t',rfl⟩:=rv
  exact⟨a == b,by simp,EqAt.int_int a t b t',fun a c e _=>nomatch e⟩
 |@tup m xs ys hs ih=>
  intro A x y u v hu I ru rv hd he
  have hd':=hd
  have he':=he
  cases hd with
  |@tup p vs _ hq hl hv=>
  cases he with
  |@tup q ws _ hq' hl' hv'=>
  cases ru
  cases rv
  obtain⟨its,r,pt,_⟩:=I.tuple hq
  obtain⟨its',r',pt',_⟩:=I.tuple hq'
  have l1:=r.length
  have l2:=r'.length
  have key:∀j (h1:j<its.toArray.size) (h2:j<its'.toArray.size),EqAt A.in1 s its.toArray[j] its'.toArray[j] (decide (xs[j]?=ys[j]?)):=fun j h1 h2=>by
   rw[kX]at h1 h2
   have j1:j<vs.length:=Om
   have j2:j<ws.length:=Om
   have j3:j<xs.length:=Om
   have j4:j<ys.length:=Om
   obtain⟨u1,e1,ru1⟩:=r.get (gE j1)
   obtain⟨u2,e2,ru2⟩:=r'.get (gE j2)
   obtain⟨b,hb,eq,_⟩:=ih j _ _ (gE j3) (gE j4) (A:=A.in1) (by show A.units+1+m<cLine;lia) I ru1 ru2 (hv j _ _ (gE j1) (gE j3)) (hv' j _ _ (gE j2) (gE j4))
   have z1:its.toArray[j]=u1:=by rw[gE Om]at e1;simpa using e1
   have z2:its'.toArray[j]=u2:=by rw[gE Om]at e2;simpa using e2
   rw[z1,z2]
   have:(decide (xs[j]?=ys[j]?))=b:=by
    rw[kQa,decide_eq_true_iff,hb,gE j3,gE j4]
    exact⟨fun z=>Option.some.inj z,fun z=>congrArg some z⟩
   rw[this]
   exact eq
  have hb:((List.range (min its.toArray.size its'.toArray.size)).all (fun j=>decide (xs[j]?=ys[j]?))&&its.toArray.size == its'.toArray.size)=true↔D.tup xs=D.tup ys:=by
   rw[jZd,Qfz,kX,kX,beq_iff_eq]
   constructor
   .rintro⟨z1,z2⟩
    refine congrArg D.tup (Qbr Om fun i x y ex ey=>?_)
    have hi:=(jW.mp ex).1
    have:=kK (z1 i Om)
    rw[ex,ey]at this
    exact Option.some.inj this
   .intro z
    injection z with z
    subst z
    exact⟨fun i _=>kW rfl,Om⟩
  refine⟨_,hb,?_,fun a c _ _=>⟨RcAt.tuples pt pt' Om key,RcNeAt.tuples pt pt' Om key⟩⟩
  by_cases hpq:p=q
  .subst hpq
   rw[hb.mpr (Qfy I hd' _ he')]
   exact EqAt.same _
  .exact EqAt.of_refs hpq (RcAt.tuples pt pt' Om key)
 |@lst m xs ys hs ih=>
  intro A x y u v hu I ru rv hd he
  have hd':=hd
  have he':=he
  cases hd with
  |@lst p vs _ hq hl hv=>
  cases he with
  |@lst q ws _ hq' hl' hv'=>
  cases ru
  cases rv
  obtain⟨its,r,pt,_⟩:=I.list hq
  obtain⟨its',r',pt',_⟩:=I.list hq'
  have l1:=r.length
  have l2:=r'.length
  have key:∀j (h1:j<its.toArray.size) (h2:j<its'.toArray.size),EqAt A.in1 s its.toArray[j] its'.toArray[j] (decide (xs[j]?=ys[j]?)):=fun j h1 h2=>by
   rw[kX]at h1 h2
   have j1:j<vs.length:=Om
   have j2:j<ws.length:=Om
   have j3:j<xs.length:=Om
   have j4:j<ys.length:=Om
   obtain⟨u1,e1,ru1⟩:=r.get (gE j1)
   obtain⟨u2,e2,ru2⟩:=r'.get (gE j2)
   obtain⟨b,hb,eq,_⟩:=ih j _ _ (gE j3) (gE j4) (A:=A.in1) (by show A.units+1+m<cLine;lia) I ru1 ru2 (hv j _ _ (gE j1) (gE j3)) (hv' j _ _ (gE j2) (gE j4))
   have z1:its.toArray[j]=u1:=by rw[gE Om]at e1;simpa using e1
   have z2:its'.toArray[j]=u2:=by rw[gE Om]at e2;simpa using e2
   rw[z1,z2]
   have:(decide (xs[j]?=ys[j]?))=b:=by
    rw[kQa,decide_eq_true_iff,hb,gE j3,gE j4]
    exact⟨fun z=>Option.some.inj z,fun z=>congrArg some z⟩
   rw[this]
   exact eq
  by_cases hsz:its.toArray.size=its'.toArray.size
  .have hb:((List.range its.toArray.size).all (fun j=>decide (xs[j]?=ys[j]?)))=true↔D.lst xs=D.lst ys:=by
    rw[kX,kX]at hsz
    rw[Qfz,kX]
    constructor
    .intro z1
     refine congrArg D.lst (Qbr Om fun i x y ex ey=>?_)
     have hi:=(jW.mp ex).1
     have:=kK (z1 i Om)
     rw[ex,ey]at this
     exact Option.some.inj this
    .intro z
     injection z with z
     subst z
     exact fun i _=>kW rfl
   refine⟨_,hb,?_,fun a c _ _=>⟨RcAt.lists pt.isList pt'.isList hsz Om key,RcNeAt.lists pt.isList pt'.isList hsz Om key⟩⟩
   by_cases hpq:p=q
   .subst hpq
    rw[hb.mpr (Qfy I hd' _ he')]
    exact EqAt.same _
   .exact EqAt.of_refs hpq (RcAt.lists pt.isList pt'.isList hsz Om key)
  .have hne:(its.toArray.size != its'.toArray.size)=true:=by simpa using hsz
   have hb:false=true↔D.lst xs=D.lst ys:=by
    rw[kX,kX]at hsz
    constructor
    .intro z;cases z
    .intro z
     injection z with z
     subst z
     lia
   refine⟨false,hb,?_,fun a c _ _=>⟨RcAt.lists_lengths pt.isList pt'.isList hne Om,RcNeAt.lists_lengths pt.isList pt'.isList hne Om⟩⟩
   by_cases hpq:p=q
   .subst hpq
    obtain rfl:=I.list_inj hq hq'
    rw[kX,kX]at hsz
    lia
   .exact EqAt.of_refs hpq (RcAt.lists_lengths pt.isList pt'.isList hne Om)
theorem Qju{n:Nat}(hu:X.A.units+n<cLine):OpR X (compareOp .Eq) (fun x y H Q=>∃a b d e,x=.ref a/\y=.ref b/\HasD X.K H x d/\HasD X.K H y e/\Alike n d e/\∀c:Bool,(c=true↔d=e)->Q (.bl c) H):=by
 intro pins s σ H x y v u Q I rx ry h
 obtain⟨a,b,d,e,rfl,rfl,h1,h2,al,q⟩:=h
 cases rx
 cases ry
 obtain⟨c,hc,_,hr⟩:=Qpr al (A:=X.A) (x:=.ref a) (y:=.ref b) (u:=.ref a) (v:=.ref b) hu I rfl rfl h1 h2
 exact(hr a b rfl rfl).1 _ _ _ _ ⟨.bl c,H,I,rfl,q c hc⟩
theorem Qps{n:Nat}(hu:X.A.units+n<cLine):OpR X (compareOp .NotEq) (fun x y H Q=>∃a b d e,x=.ref a/\y=.ref b/\HasD X.K H x d/\HasD X.K H y e/\Alike n d e/\∀c:Bool,(c=true↔d=e)->Q (.bl (!c)) H):=by
 intro pins s σ H x y v u Q I rx ry h
 obtain⟨a,b,d,e,rfl,rfl,h1,h2,al,q⟩:=h
 cases rx
 cases ry
 obtain⟨c,hc,_,hr⟩:=Qpr al (A:=X.A) (x:=.ref a) (y:=.ref b) (u:=.ref a) (v:=.ref b) hu I rfl rfl h1 h2
 exact(hr a b rfl rfl).2 _ _ _ _ ⟨.bl (!c),H,I,rfl,q c hc⟩
end
def Fn(K:Fg)(mg:Str->Option Value)(x:Str)(st:Stmt):Prop:=∃f fd,Fun K x x st f fd/\mg x=some (.ref f)
theorem Yt{K:Fg}{h:Heap}{mg:Str->Option Value}{x:Str}{st:Stmt}{f:Addr}{oc:Value}{od an:Option Addr}{osl:Array (Option Value)}{kV doc pm cdv ct:Value}(X:K.In h)(G:h.Ns mainGlobals mg)
  (a:PySem.W.nsIn K mainGlobals x=some (some (.ref f))) (l:K.lookup f=some ⟨oc,od,.func (PySem.W.fnOf x x (Xb st) (Xa st) (Qg st) .none kV doc pm an cdv ct),osl⟩) (c:PySem.W.codeIn K cdv x=true) (k:PySem.W.keepIn K (.ref f)=true):Fn K mg x st :=
 ⟨f,_,Yk l c k,PySem.W.mg_of X G a⟩
structure Cal(P:Program)(w:World)(K:Fg)(mg:Str->Option Value)(base:Heap)(k:Nat)(x:Str)(ps:List Str)(sp:Sp):Prop where
 ex:∃f fd,FnOk P w K mg base CX0 k f fd ps sp/\mg x=some (.ref f)/\PySem.W.keepIn K (.ref f)=true/\Binds K fd ps []
theorem Xt{P:Program}{w:World}{K:Fg}{mg:Str->Option Value}{base:Heap}{k:Nat}{x:Str}{st:Stmt}{N ps:List Str}{sp:Sp}(F:Fn K mg x st)(S:FnScope N ps (Qg st))
  (hb:∀(kV doc pm:Value) (an:Option Addr) (cdv ct:Value) (us:List Value),us.length=ps.length->bindArgs (PySem.W.fnOf x x (Xb st) (Xa st) (Qg st) .none kV doc pm an cdv ct) ⟨us,[]⟩=pure (ps.zip us)) (len:∀vs H Q E,sp vs H Q E->vs.length=ps.length)
  (hbody:∀(f:Addr) (cdv:Value) (A:Around) (outer:List Env) (s:Shared) (H:Hp) (vs:List V) (Q:VK) (E:XK),Room k (A.deeper (envOfC x (Qg st) s.heap.objs.size f cdv))->sp vs H Q E ->
   ∃t,PSs (cxOf CX0 P w K mg base N x (Qg st) f cdv A outer s H E).nox (Xa st) t/\t { nx:=fun _ H'=>Q .non H',rt:=Q } (start N vs) H):Cal P w K mg base (k+1) x ps sp:=by
 obtain⟨f,fd,F,m⟩:=F
 exact⟨f,fd,F.ok S len (hbody f),m,F.kp,F.binds hb⟩
section
variable{X:Cx}
theorem Xh{k:Nat}{x:Str}{ps:List Str}{sp:Sp}{e:Expr}{es:List Expr}{t:TA}{p pos:Pos}(C:Cal X.prog X.w X.K X.mg X.base k x ps sp)(hr:Room k X.A)(ha:PA X (e::es) t)(hg:autoParam (Gl X x) L2.aRfl._auto_1)
  (hdb:autoParam ((x == ("__debug__":Str))=false) L2.aDec._auto_1) (he:autoParam (starEach (e::es) X.env=(false,eval e X.env)::starEach es X.env) L2.aRfl._auto_1) (hpl:autoParam ((backTo pos (starEach es X.env)).any (·.1)=false) L2.aRfl._auto_1) :
  PE X (.Call (.Name x p) (e::es) [] pos) (tCall sp [] E0 t):=by
 obtain⟨f,fd,F,m,kp,b⟩:=C.ex
 exact Qri F hr hg m kp b .nil Yq ha hdb he hpl
theorem Qbs{x:Str}{T:String}{pos:Pos}(hm:X.mg x=none)(hv:bootBuiltins x=some (.type T))(hg:autoParam (Gl X x) L2.aRfl._auto_1)(hn:autoParam (x≠"__name__") L2.aDec._auto_1)(hd:autoParam ((x == ("__debug__":Str))=false) L2.aDec._auto_1):PE X (.Name x pos) (tC (.ty T)) :=
 Qrd hg hm hv (v:=.ty T) rfl hn hd
end
def Qng(K:Fg)(i j:Nat):TG:=gTup K 2 (Qre (Qbj i) (Qre (Qbj j) gNil))
theorem Yu{X:Cx}{K:Fg}{i j:Nat}{x y:Str}{px py pos:Pos}{k:Nat}(hK:X.K=K)(hc:X.calm=true)(hN:X.N.Nodup)(hi:X.N[i]?=some x)(hj:X.N[j]?=some y)(hx:X.env.scope.names.lookup x=some .local)(hy:X.env.scope.names.lookup y=some .local) :
  PG X (.Tuple [.Name x px,.Name y py] k pos) (Qng K i j):=by
 subst hK
 exact Qft hc (Jh (Qx hN hi (.inl hx) (.inr hx)) (Jh (Qx hN hj (.inl hy) (.inr hy)) Qbk))
theorem Xl:bootBuiltins "len"=some (.builtin "len"):=Dk
theorem Wu:bootBuiltins "sum"=some (.builtin "sum"):=Dk
theorem Qga:bootBuiltins "all"=some (.builtin "all"):=Dk
theorem Xw:bootBuiltins "isinstance"=some (.builtin "isinstance"):=Dk
theorem Kj:bootBuiltins "abs"=some (.builtin "abs"):=Dk
theorem bt_min:bootBuiltins "min"=some (.builtin "min"):=Dk
theorem Qdl:bootBuiltins "max"=some (.builtin "max"):=Dk
theorem Qjv:bootBuiltins "sorted"=some (.builtin "sorted"):=Dk
theorem Qjw:bootBuiltins "int"=some (.type "int"):=Dk
theorem Qrp:bootBuiltins "bool"=some (.type "bool"):=Dk
theorem Yh:bootBuiltins "tuple"=some (.type "tuple"):=Dk
theorem Yv:bootBuiltins "list"=some (.type "list"):=Dk
theorem Qrq:bootBuiltins "dict"=some (.type "dict"):=Dk
theorem Qdm:bootBuiltins "enumerate"=some (.type "enumerate"):=Dk
theorem Qd{H:Hp}{p:Addr}(h:H p=none)(o:HO):Same H (upd H p o):=fun b u q=>by rw[Qj (Qk q h)];exact q
theorem Same.tup{K:Fg}{H H':Hp}{a:Addr}{xs:List V}(e:Same H H')(h:SqT K H a xs):SqT K H' a xs:=by
 rcases h with(h | ⟨o,h⟩) | h
 .exact .inl (.inl (e _ _ h))
 .exact .inl (.inr ⟨o,e _ _ h⟩)
 .exact .inr h
theorem Qy{K:Fg}{H:Hp}{a:Addr}{xs:List V}(h:H a=some (.tup xs)):SqT K H a xs:=.inl (.inl h)
theorem Qh{K:Fg}{H:Hp}{a:Addr}{xs:List V}(h:H a=some (.lst xs)):SqL K H a xs:=.inl (.inl h)
theorem Qrr{K:Fg}{m1 m2:Bool}{a b:Addr}{xs ys:List V}{g:TG}{tb:TS}{D:Ends}{σ:St}{H:Hp}(Pv:Nat->St->Hp->Prop)(h0:Pv 0 σ H)(hl:∀i σ H,i<=min xs.length ys.length->Pv i σ H->Sq K m1 H a xs/\Sq K m2 H b ys)
  (hs:∀i x y σ H T,xs[i]?=some x->ys[i]?=some y->Pv i σ H->H T=none->g (.ref T) σ (upd H T (.tup [x,y])) fun σ2 H2=>tb { D with nx:=Pv (i+1),ct:=Pv (i+1),bk:=D.nx } σ2 H2) (hd:∀σ H,Pv (min xs.length ys.length) σ H->D.nx σ H) :
  ∃W:Nat->Nat->St->Hp->Prop,(∃m,W 0 m σ H)/\∀i m σ H,W i m σ H ->
   ((Itz K m1 m2 a b).stop i H/\D.nx σ H)\/((Itz K m1 m2 a b).go i H/\∃N:St->Hp->Prop,(∀σ' H',N σ' H'->∃m',m'<m/\W (i+1) m' σ' H')/\∀x H',(Itz K m1 m2 a b).yld i H x H'->g x σ H' fun σ2 H2=>tb { D with nx:=N,ct:=N,bk:=D.nx } σ2 H2):=by
 refine⟨fun i m σ H=>m=min xs.length ys.length-i/\i<=min xs.length ys.length/\Pv i σ H,⟨_,rfl,jQc _,h0⟩,?_⟩
 rintro i m σ H ⟨rfl,hi,p⟩
 obtain⟨q1,q2⟩:=hl i σ H hi p
 by_cases hlt:i<min xs.length ys.length
 .have i1:i<xs.length:=Om
  have i2:i<ys.length:=Om
  refine .inr ⟨⟨xs,ys,xs[i],ys[i],q1,q2,by simp[i1],by simp[i2]⟩,Pv (i+1),fun σ' H' p'=>⟨min xs.length ys.length-(i+1),Om,rfl,hlt,p'⟩,fun x H' y=>?_⟩
  obtain⟨T,u,v,rfl,hT,rfl,y1,y2⟩:=y
  exact hs i u v σ H T (y1 xs q1) (y2 ys q2) p hT
 .have e:i=min xs.length ys.length:=Om
  subst e
  exact .inl ⟨⟨xs,ys,q1,q2,Om⟩,hd σ H p⟩
theorem Kk{J:It}{n:Nat}{τ0:St}{g:TG}{tt:TT}{te:TE}{H:Hp}{Q:Addr->Hp->Prop}{D:Addr}(Pv:Nat->St->List V->Hp->Prop)
  (h0:Pv 0 τ0 [] (upd H D (.lst []))) (hD:∀i τ ys H,i<=n->Pv i τ ys H->H D=some (.lst ys)/\ys.length<sizeLine) (go:∀i τ ys H,i<n->Pv i τ ys H->J.go i H) (stop:∀τ ys H,Pv n τ ys H->J.stop n H)
  (hs:∀i τ ys H x H',i<n->Pv i τ ys H->J.yld i H x H'->g x τ H' fun σ2 H2=>tt σ2 H2 fun ok H3=>if ok=true then te σ2 H3 fun v H4=>H4 D=some (.lst ys)/\Pv (i+1) σ2 (ys++[v]) (upd H4 D (.lst (ys++[v])))else Pv (i+1) σ2 ys H3)
  (hd:∀τ ys H,Pv n τ ys H->Q D H) :
  LcW J D τ0 H g tt te Q:=by
 refine⟨fun i m τ ys H=>m=n-i/\i<=n/\Pv i τ ys H,⟨n,by simp,jQc _,h0⟩,?_⟩
 rintro i m τ ys H ⟨rfl,hi,p⟩
 obtain⟨z1,z2⟩:=hD i τ ys H hi p
 refine⟨z1,?_⟩
 by_cases hlt:i<n
 .refine .inr ⟨go i τ ys H hlt p,z2,fun τ v H=>Pv (i+1) τ (ys++[v]) (upd H D (.lst (ys++[v]))),fun τ H=>Pv (i+1) τ ys H,fun τ v H q=>⟨n-(i+1),Om,rfl,hlt,q⟩,fun τ H q=>⟨n-(i+1),Om,rfl,hlt,q⟩,fun x H' y=>hs i τ ys H x H' hlt p y⟩
 .have e:i=n:=Om
  subst e
  exact .inl ⟨stop τ ys H p,hd τ ys H p⟩
theorem Vals.of_get:∀{xs:List V} {us:List Value},xs.length=us.length->(∀(i:Nat) x u,xs[i]?=some x->us[i]?=some u->RelV x u)->Vals xs us
 |[],[],_,_=>.nil
 |x::xs,u::us,hl,h=>.cons (h 0 x u rfl rfl) (Vals.of_get (by simpa using hl) fun i y v e1 e2=>h (i+1) y v (by simpa using e1) (by simpa using e2))
 |[],_::_,hl,_=>by simp at hl
 |_::_,[],hl,_=>by simp at hl
section
variable{X:Cx}
def insV(xs:List V)(k:Nat)(y:V):List V:=xs.take k++y::xs.drop k
theorem Vals.ins{xs:List V}{us:List Value}{y:V}{u:Value}(r:Vals xs us)(ry:RelV y u)(k:Nat):Vals (insV xs k y) (us.take k++u::us.drop k) :=
 (Vals.take k r).append (.cons ry (Vals.drop k r))
theorem Qjx:MtM X "list.insert" (fun x vs H Q=>∃l xs k y,x=.ref l/\vs=[.int k,y]/\H l=some (.lst xs)/\0<=k/\k<=(xs.length:Int)/\xs.length<sizeLine/\Q .non (upd H l (.lst (insV xs k.toNat y)))):=by
 intro pins s σ H x vs v us Q I rx rv h
 obtain⟨l,xs,k,y,rfl,rfl,hH,h0,h1,hz,q⟩:=h
 cases rx
 obtain⟨u1,u2,rfl,⟨t,rfl⟩,ru⟩:=rv.two
 obtain⟨z,its,n,r,hl,e⟩:=I.lstM hH
 have fit:¬(!Builtin.List.listFitsIndex k)=true:=by
  have:Builtin.List.listFitsIndex k=true:=by
   unfold Builtin.List.listFitsIndex
   have:(sizeLine:Nat)=16777216:=Dc
   simp only[jZd,decide_eq_true_eq]
   constructor<;>lia
  rw[this];simp
 refine call_meets F.slot_list_insert ⟨_,e,rfl⟩ F.entry_list_insert (F.args_list_insert_3 _ _ _) (PySem.AutoListH.list_insert_list_int_val_1 l its.toArray n k t u2 fit (by rw[kX];lia)) ⟨e,?_⟩
 refine⟨.non,_,I.lset (its':=its.take k.toNat++u2::its.drop k.toNat) hH e ?_ (Vals.ins r ru k.toNat) ?_,rfl,q⟩
 .have e1:(if k<0 then(k+((its.toArray.size:Nat):Int)).toNat else min k.toNat its.toArray.size)=k.toNat:=by
   rw[if_neg Om,kX];lia
  simp only[e1]
  apply Array.toList_inj.mp
  simp
  rw[jXc (by simp)]
 .unfold insV
  rw[kZ,xQ,xJ,List.length_drop]
  lia
theorem Qnh{e:Expr}{ta:TA}{p pos:Pos}(hm:X.mg "range"=none)(ha:PA X [e] ta)(hg:autoParam (Gl X "range") L2.aRfl._auto_1)(hs:autoParam (starEach [e] X.env=[(false,eval e X.env)]) L2.aRfl._auto_1) :
  PE X (.Call (.Name "range" p) [e] [] pos) (fun σ H Q=>ta σ H fun vs H1=>∃n:Int,vs=[.int n]/\∀r,H1 r=none->Q (.ref r) (upd H1 r (.rng 0 n))):=by
 intro pins s σ H Q I h
 refine Call_ (Vr I hg hm boot_range (PyProof.Rows.callWith_type1 (thn (ha pos pins s σ H _ I h) fun us s1 hqP=>?_) hs rfl))
 obtain⟨vs,H1,I1,r1,q1⟩:=hqP
 obtain⟨n,e,q⟩:=q1
 subst e
 obtain⟨u,rfl,t,rfl⟩:=r1.one
 refine call_range_1 ⟨.ref s1.heap.objs.size,upd H1 s1.heap.objs.size (.rng 0 n),I1.laid (fun b u e=>jK _ e) (jY _) ⟨_,_,_,yJ _ rfl⟩,rfl,q _ (I1.hok.fresh (jY _))⟩
theorem Qbt(hc:X.calm=true):Zv X (.type "list") (fun xs H Q=>∃(r:Addr) (n:Int),xs=[.ref r]/\H r=some (.rng 0 n)/\0<=n/\n<=1000000/\∀l,H l=none->Q (.ref l) (upd H l (.lst ((List.range n.toNat).map fun i=>V.int (i:Nat))))):=by
 intro pins s σ H xs us Q I rv h
 obtain⟨r,n,rfl,hr,h0,h1,q⟩:=h
 obtain⟨u,rfl,ru⟩:=rv.one
 cases ru
 obtain⟨t,u,v,e⟩:=I.hok r _ hr
 have hz:(sizeLine:Nat)=16777216:=Dc
 refine call_list_range (n:=n.toNat) (I.ok.hd hc) e (small_one Om Om Om Om) (by rw[rangeSize_one];split<;>lia) Om fun h' tk acc' c' hk hS hI=>?_
 refine⟨.ref s.heap.objs.size,upd H s.heap.objs.size (.lst ((List.range n.toNat).map fun i=>V.int (i:Nat))),I.laid hk (jY _) ?_,rfl,q _ (I.hok.fresh (jY _))⟩
 refine⟨by rw[jQ,jV];lia,acc'.toList,c',Vals.of_get (by rw[jQ,jV,kXb,hI.1]) fun i x u e1 e2=>?_,by simpa using hS⟩
 obtain⟨t',rfl⟩:=hI.2 i u (by simpa using e2)
 rw[jJ]at e1
 obtain⟨j,ej,rfl⟩:=xV.mp e1
 have hj:=jW.mp ej
 obtain⟨hj1,hj2⟩:=hj
 rw[kXe]at hj2
 subst hj2
 exact⟨t',by simp⟩
theorem Zr{K:Fg}(hK:X.K=K):IxR X (rIxL K):=by subst hK;exact Qw
theorem Jy{K:Fg}(hK:X.K=K):IxR X (rIxT K):=by subst hK;exact Qu
theorem Qbu{K:Fg}(hK:X.K=K):Zv X (.type "list") (fun xs H Q=>∃p ys,xs=[.ref p]/\(SqL K H p ys\/SqT K H p ys)/\∀l,H l=none->Q (.ref l) (upd H l (.lst ys))):=by subst hK;exact Xv
theorem Qan{K:Fg}(hK:X.K=K):Zv X (.type "tuple") (fun xs H Q=>∃p ys,xs=[.ref p]/\((SqL K H p ys/\∀l,H l=none->Q (.ref l) (upd H l (.tup ys)))\/(SqT K H p ys/\Q (.ref p) H))):=by subst hK;exact Xe
end
section
variable{κ:Type}[DecidableEq κ]
def valV(kvs:List (κ×V))(k:κ):Option V:=(kvs.find? fun kv=>decide (kv.1=k)).map (·.2)
def putK(kvs:List (κ×V))(k:κ)(v:V):List (κ×V) :=
 if (kvs.any fun kv=>decide (kv.1=k))=true then kvs.map (fun kv=>if kv.1=k then(kv.1,v)else kv)else kvs++[(k,v)]
def Qev(kvs:List (κ×V))(k:κ):List (κ×V):=kvs.filter fun kv=>decide (kv.1≠k)
theorem Zg{p:κ×V}{r:List (κ×V)}{k:κ}(e:p.1=k):valV (p::r) k=some p.2:=by simp[valV,jKb,e]
theorem Zh{p:κ×V}{r:List (κ×V)}{k:κ}(e:¬p.1=k):valV (p::r) k=valV r k:=by simp[valV,jKb,e]
theorem Vz(k:κ):∀kvs:List (κ×V),(kvs.any fun kv=>decide (kv.1=k))=(valV kvs k).isSome
 |[]=>rfl
 |p::r=>by
  rw[List.any_cons]
  by_cases e:p.1=k
  .simp only[Zg e,kW e,Bool.true_or,Option.isSome_some]
  .rw[Zh e,jQe e,Bool.false_or];exact Vz k r
theorem Qgb(k j:κ)(y:V):∀kvs:List (κ×V),valV (kvs.map fun kv=>if kv.1=k then(kv.1,y)else kv) j=(valV kvs j).map fun x=>if j=k then y else x
 |[]=>rfl
 |p::r=>by
  have ih:=Qgb k j y r
  rw[yX]
  by_cases h:p.1=k
  .rw[if_pos h]
   by_cases e:p.1=j
   .rw[Zg (p:=(p.1,y)) e,Zg e,yQb,if_pos (e.symm.trans h)]
   .rw[Zh (p:=(p.1,y)) e,Zh e,ih]
  .rw[if_neg h]
   by_cases e:p.1=j
   .rw[Zg (p:=p) e,Zg e,yQb,if_neg (fun z=>h (e.trans z))]
   .rw[Zh (p:=p) e,Zh e,ih]
theorem Qdn(k j:κ)(y:V):∀kvs:List (κ×V),valV kvs k=none->valV (kvs++[(k,y)]) j=if j=k then some y else valV kvs j
 |[],_=>by
  by_cases e:k=j
  .rw[if_pos e.symm];exact Zg (p:=(k,y)) e
  .rw[if_neg (fun z=>e z.symm)];exact Zh (p:=(k,y)) e
 |p::r,hn=>by
  rw[List.cons_append]
  have hk:¬p.1=k:=fun z=>by rw[Zg z]at hn;cases hn
  rw[Zh hk]at hn
  have ih:=Qdn k j y r hn
  by_cases e:p.1=j
  .rw[Zg e,Zg e,if_neg (fun z=>hk (e.trans z))]
  .rw[Zh e,Zh e,ih]
theorem Kc(kvs:List (κ×V))(k j:κ)(y:V):valV (putK kvs k y) j=if j=k then some y else valV kvs j:=by
 unfold putK
 by_cases a:(kvs.any fun kv=>decide (kv.1=k))=true
 .rw[if_pos a,Qgb]
  rw[Vz]at a
  by_cases e:j=k
  .obtain⟨x,hx⟩:=kXd.mp a
   rw[if_pos e,e,hx,yQb,if_pos rfl]
  .rw[if_neg e]
   cases valV kvs j with
   |none=>rfl
   |some x=>rw[yQb,if_neg e]
 .rw[if_neg a]
  refine Qdn k j y kvs ?_
  rw[Vz]at a
  cases q:valV kvs k with
  |none=>rfl
  |some x=>rw[q]at a;exact(a rfl).elim
theorem Zz(kvs:List (κ×V))(k:κ)(v:V):(putK kvs k v).length<=kvs.length+1:=by
 unfold putK
 split
 .rw[jQ];lia
 .rw[kZ,xQ,List.length_nil];lia
theorem RelO.isSome_eq{o:Option V}{u:Option Value}(r:RelO o u):o.isSome=u.isSome:=by
 cases o with
 |none=>cases u with
  |none=>rfl
  |some _=>exact(show False from r).elim
 |some _=>cases u with
  |none=>exact(show False from r).elim
  |some _=>rfl
theorem RelO.getD{o:Option V}{u:Option Value}{d:V}{d':Value}(r:RelO o u)(rd:RelV d d'):RelV (o.getD d) (u.getD d'):=by
 cases o with
 |none=>cases u with
  |none=>exact rd
  |some _=>exact(show False from r).elim
 |some _=>cases u with
  |none=>exact(show False from r).elim
  |some _=>exact r
theorem KV.val{kvs:List (κ×V)}{vs:List (κ×Value)}(r:KV kvs vs)(k:κ):RelO (valV kvs k) (valueAt vs k):=by
 unfold KV at r
 induction r with
 |nil=>exact True.intro
 |@cons p q ps qs h t ih=>
  obtain⟨h1,h2⟩:=h
  by_cases e:p.1=k
  .have e':q.1=k:=h1.symm.trans e
   have b:valueAt (q::qs) k=some q.2:=by simp[valueAt,jKb,e']
   rw[Zg e,b];exact h2
  .have e':¬q.1=k:=fun z=>e (h1.trans z)
   have b:valueAt (q::qs) k=valueAt qs k:=by simp[valueAt,jKb,e']
   rw[Zh e,b];exact ih
theorem KV.any{kvs:List (κ×V)}{vs:List (κ×Value)}(r:KV kvs vs)(k:κ):(kvs.any fun kv=>decide (kv.1=k))=vs.any fun kv=>decide (kv.1=k):=by
 unfold KV at r
 induction r with
 |nil=>rfl
 |cons h t ih=>rw[List.any_cons,List.any_cons,ih,h.1]
theorem KV.repl{kvs:List (κ×V)}{vs:List (κ×Value)}(r:KV kvs vs)(k:κ){y:V}{u:Value}(ry:RelV y u) :
  KV (kvs.map fun kv=>if kv.1=k then(kv.1,y)else kv) (vs.map fun kv=>if kv.1=k then(kv.1,u)else kv):=by
 unfold KV at r⊢
 induction r with
 |nil=>exact .nil
 |@cons p q ps qs h t ih=>
  rw[yX,yX]
  refine .cons ?_ ih
  obtain⟨h1,h2⟩:=h
  by_cases e:p.1=k
  .rw[if_pos e,if_pos (h1.symm.trans e)];exact⟨h1,ry⟩
  .rw[if_neg e,if_neg (fun z=>e (h1.trans z))];exact⟨h1,h2⟩
theorem KV.put{kvs:List (κ×V)}{vs:List (κ×Value)}(r:KV kvs vs)(k:κ){y:V}{u:Value}(ry:RelV y u):KV (putK kvs k y) (stored vs k u):=by
 unfold putK stored
 rw[r.any k]
 by_cases e:(vs.any fun kv=>decide (kv.1=k))=true
 .rw[if_pos e,if_pos e];exact r.repl k ry
 .rw[if_neg e,if_neg e];exact Paired.snoc r ⟨rfl,ry⟩
theorem KV.drop{kvs:List (κ×V)}{vs:List (κ×Value)}(r:KV kvs vs)(k:κ):KV (Qev kvs k) (without vs k):=by
 unfold KV at r⊢
 unfold Qev without
 induction r with
 |nil=>exact .nil
 |@cons p q ps qs h t ih=>
  obtain⟨h1,h2⟩:=h
  rw[List.filter_cons,List.filter_cons]
  by_cases e:p.1=k
  .have a:¬decide (p.1≠k)=true:=by simp[e]
   have b:¬decide (q.1≠k)=true:=by simp[h1.symm.trans e]
   rw[if_neg a,if_neg b];exact ih
  .have e':¬q.1=k:=fun z=>e (h1.trans z)
   have a:decide (p.1≠k)=true:=by simp[e]
   have b:decide (q.1≠k)=true:=by simp[e']
   rw[if_pos a,if_pos b];exact .cons ⟨h1,h2⟩ ih
theorem KV.keys{kvs:List (κ×V)}{vs:List (κ×Value)}(r:KV kvs vs):kvs.map (·.1)=vs.map (·.1):=by
 unfold KV at r
 induction r with
 |nil=>rfl
 |cons h t ih=>rw[yX,yX,ih,h.1]
theorem KV.length{kvs:List (κ×V)}{vs:List (κ×Value)}(r:KV kvs vs):kvs.length=vs.length:=Paired.length r
theorem Qni(kvs:List (κ×V))(k:κ):(Qev kvs k).length<=kvs.length:=jXe _ _
end
theorem Qbv{P:Program}{w:World}{k:Key}{u:Value}(r:RelV (kV k) u):(Xq P w).is k u=true:=by
 cases k with
 |inl i=>obtain⟨t,e⟩:=(show ∃t,u=Value.int i t from r);subst e;exact Wg P w i t
 |inr x=>obtain⟨t,e⟩:=(show ∃t,u=Value.str x t from r);subst e;exact Qek P w x t
theorem Qdo{P:Program}{w:World}:∀{ks:List Key} {us:List Value},Vals (ks.map kV) us->ItemsAre (Xq P w) ks us
 |[],_,r=>by rw[jYb]at r;cases r;exact .nil
 |k::ks,_,r=>by
  rw[yX]at r
  cases r with
  |cons h t=>exact .cons (Qbv h) (Qdo t)
abbrev KT(H:Hp):List (List Key×V)->List (List Key×Addr×Value)->Prop:=Paired fun p q=>p.1=q.1/\H q.2.1=some (.tup (p.1.map kV))/\RelV p.2 q.2.2
theorem KT.val{H:Hp}{kvs:List (List Key×V)}{xs:List (List Key×Addr×Value)}(r:KT H kvs xs)(k:List Key):RelO (valV kvs k) ((atKey xs k).map (·.2)):=by
 induction r with
 |nil=>exact True.intro
 |@cons p q ps qs h t ih=>
  obtain⟨h1,_,h2⟩:=h
  by_cases e:p.1=k
  .have e':q.1=k:=h1.symm.trans e
   have b:atKey (q::qs) k=some q.2:=by simp[atKey,jKb,e']
   rw[Zg e,b];exact h2
  .have e':¬q.1=k:=fun z=>e (h1.trans z)
   have b:atKey (q::qs) k=atKey qs k:=by simp[atKey,jKb,e']
   rw[Zh e,b];exact ih
theorem KT.repl{H:Hp}{kvs:List (List Key×V)}{xs:List (List Key×Addr×Value)}(r:KT H kvs xs)(k:List Key){y:V}{u:Value}(ry:RelV y u) :
  KT H (kvs.map fun kv=>if kv.1=k then(kv.1,y)else kv) (xs.map (putAt k u)):=by
 induction r with
 |nil=>exact .nil
 |@cons p q ps qs h t ih=>
  rw[yX,yX]
  refine .cons ?_ ih
  obtain⟨h1,h2,h3⟩:=h
  unfold putAt
  by_cases e:p.1=k
  .rw[if_pos e,if_pos (h1.symm.trans e)];exact⟨h1,h2,ry⟩
  .rw[if_neg e,if_neg (fun z=>e (h1.trans z))];exact⟨h1,h2,h3⟩
theorem KT.put{H:Hp}{kvs:List (List Key×V)}{xs:List (List Key×Addr×Value)}(r:KT H kvs xs)(k:List Key){b:Addr}{y:V}{u:Value}(hb:H b=some (.tup (k.map kV)))(ry:RelV y u) :
  KT H (putK kvs k y) (storedH xs k b u):=by
 have e:(kvs.any fun kv=>decide (kv.1=k))=(atKey xs k).isSome:=by
  rw[Vz,(r.val k).isSome_eq,Option.isSome_map]
 unfold putK storedH
 rw[e]
 by_cases q:(atKey xs k).isSome=true
 .rw[if_pos q,if_pos q];exact r.repl k ry
 .rw[if_neg q,if_neg q];exact Paired.snoc r ⟨rfl,hb,ry⟩
theorem KT.keeps{H H':Hp}{kvs:List (List Key×V)}{xs:List (List Key×Addr×Value)}(r:KT H kvs xs)(ht:∀b ys,H b=some (.tup ys)->H' b=some (.tup ys)):KT H' kvs xs :=
 Paired.mapP r fun _ _ z=>⟨z.1,ht _ _ z.2.1,z.2.2⟩
section
variable{P:Program}{w:World}{H:Hp}{h:Heap}{a:Addr}
theorem rd_of{u:HO}(ok:HOk P w H h)(e:Rd H a u):ObjOk P w H h a u:=e.ok ok
theorem Qbw{kvs:List (Key×V)}(ok:HOk P w H h)(e:Rd H a (.dK kvs)):kvs.length<=sizeLine/\(a == sysModules)=false/\∃vs,KV kvs vs/\h.DictOf (Xq P w) a vs :=
 show ObjOk P w H h a (.dK kvs)from rd_of ok e
theorem Qbx{kvs:List (Key×V)}(ok:HOk P w H h)(e:H a=some (.dK kvs)):kvs.length<=sizeLine/\(a == sysModules)=false/\∃vs,KV kvs vs/\h.DictOf (Xq P w) a vs:=Qbw ok (.inl e)
theorem Wv{ks:List Key}(ok:HOk P w H h)(e:H a=some (.tup (ks.map kV))):(tupleKind (Xq P w)).is h ks a:=by
 obtain⟨_,its,r,o,h1,h2,n,h3⟩:=(show ObjOk P w H h a (.tup (ks.map kV))from ok a _ e)
 exact⟨o,its.toArray,n,h1,h2,h3,by simpa using Qdo r⟩
theorem Qdp{kvs:List (List Key×V)}(ok:HOk P w H h)(e:Rd H a (.dT kvs)):kvs.length<=sizeLine/\(a == sysModules)=false /\
  ∃xs,KT H kvs xs/\h.DictOfH (tupleKind (Xq P w)) a xs:=by
 obtain⟨z,y,xs,r,o,es,ep,h1,h2,h3,h4,h5⟩:=(show ObjOk P w H h a (.dT kvs)from rd_of ok e)
 refine⟨z,y,xs,r,o,es,ep,h1,h2,h3,h4,fun x hx=>?_,h5⟩
 have all:∀{l:List (List Key×V)} {m:List (List Key×Addr×Value)},KT H l m->∀x∈m,(tupleKind (Xq P w)).is h x.1 x.2.1:=by
  intro l m q
  induction q with
  |nil=>intro x hx;exact nomatch hx
  |@cons p q ps qs hq t ih=>
   intro x hx
   rcases kQ.mp hx with e | hx
   .subst e
    exact Wv ok (by rw[<-hq.1];exact hq.2.1)
   .exact ih x hx
 exact all r x hx
theorem dt_of{kvs:List (List Key×V)}(ok:HOk P w H h)(e:H a=some (.dT kvs)):kvs.length<=sizeLine/\(a == sysModules)=false /\
  ∃xs,KT H kvs xs/\h.DictOfH (tupleKind (Xq P w)) a xs:=Qdp ok (.inl e)
end
def DGet(H:Hp)(a:Addr)(y:V)(r:Option V):Prop :=
 (∃kvs k,Rd H a (.dK kvs)/\y=kV k/\r=valV kvs k)\/∃kvs k b,Rd H a (.dT kvs)/\y=.ref b/\H b=some (.tup (k.map kV))/\r=valV kvs k
def DPut(H:Hp)(a:Addr)(y v:V)(H':Hp):Prop :=
 (∃kvs k,H a=some (.dK kvs)/\y=kV k/\kvs.length<sizeLine/\H'=upd H a (.dK (putK kvs k v))) \/
 ∃kvs k b,H a=some (.dT kvs)/\y=.ref b/\H b=some (.tup (k.map kV))/\kvs.length<sizeLine/\H'=upd H a (.dT (putK kvs k v))
theorem DGet.k{H:Hp}{a:Addr}{kvs:List (Key×V)}{k:Key}(e:H a=some (.dK kvs)):DGet H a (kV k) (valV kvs k):=.inl ⟨kvs,k,.inl e,rfl,rfl⟩
theorem DPut.k{H:Hp}{a:Addr}{kvs:List (Key×V)}{k:Key}{v:V}(e:H a=some (.dK kvs))(hl:kvs.length<sizeLine):DPut H a (kV k) v (upd H a (.dK (putK kvs k v))):=.inl ⟨kvs,k,e,rfl,hl,rfl⟩
section
variable{X:Cx}{pins:List (Addr×Obj)}{σ:St}{H:Hp}{s:Shared}{a:Addr}{y v:V}{u r:Value}{o:Option V}{A:Around}{E:Value->Shared->Prop}
theorem Inv.big(I:Inv X pins σ H s):sysModules<s.heap.objs.size:=by
 have h:mainGlobals<s.heap.objs.size:=(I.mod.glob.keeps I.bk).lt
 exact kKd Dc h
theorem Qjy{Q:Value->Shared->Prop}(hu:A.units+1<cLine)(I:Inv X pins σ H s)(g:DGet H a y (some v))(ry:RelV y u)(h:∀w' s',Inv X pins σ H s'->RelV v w'->Q w' s') :
  wpAny (model X.prog X.w) A (getItem (.ref a) u) Q E s:=by
 rcases g with⟨kvs,k,e,ey,l⟩ | ⟨kvs,k,b,e,ey,eb,l⟩
 .subst ey
  obtain⟨z,hd,vs,rel,dd⟩:=Qbw I.hok e
  obtain⟨w',hw,rw'⟩:=RelO.some_of (v:=v) (o:=valueAt vs k) (by rw[l];exact rel.val k)
  exact wpAny_getItem_of (Qbv ry) dd.mapOf hw (h w' _ (I.tok _) rw')
 .subst ey
  cases(show u=Value.ref b from ry)
  obtain⟨z,hd,xs,rel,dd⟩:=Qdp I.hok e
  obtain⟨w',hw,rw'⟩:=RelO.some_of (v:=v) (o:=(atKey xs k).map (·.2)) (by rw[l];exact rel.val k)
  obtain⟨p,hp,hp2⟩:=xV.mp hw
  refine wpAny_getItem_heap (tupleKind_room_in1 hu) (Wv I.hok eb) dd hp ?_
  rw[hp2]
  exact h w' _ (I.tok _) rw'
theorem d_in{Q:Value->Shared->Prop}(hu:A.units+1<cLine)(I:Inv X pins σ H s)(g:DGet H a y o)(ry:RelV y u)(h:∀s',Inv X pins σ H s'->Q (.bool o.isSome) s') :
  wpAny (model X.prog X.w) A (compareOp .In u (.ref a)) Q E s:=by
 rcases g with⟨kvs,k,e,ey,l⟩ | ⟨kvs,k,b,e,ey,eb,l⟩
 .subst ey
  obtain⟨z,hd,vs,rel,dd⟩:=Qbw I.hok e
  refine wpAny_in_of (Qbv ry) hd dd.mapOf ?_
  rw[<-(rel.val k).isSome_eq,<-l]
  exact h _ (I.tok _)
 .subst ey
  cases(show u=Value.ref b from ry)
  obtain⟨z,hd,xs,rel,dd⟩:=Qdp I.hok e
  refine wpAny_in_heap (tupleKind_room_in1 hu) (Wv I.hok eb) hd dd ?_
  have q:=(rel.val k).isSome_eq
  rw[Option.isSome_map]at q
  rw[<-q,<-l]
  exact h _ (I.tok _)
theorem Qrs{Q:Value->Shared->Prop}(hu:A.units+1<cLine)(I:Inv X pins σ H s)(g:DGet H a y o)(ry:RelV y u)(h:∀s',Inv X pins σ H s'->Q (.bool (!o.isSome)) s') :
  wpAny (model X.prog X.w) A (compareOp .NotIn u (.ref a)) Q E s:=by
 rcases g with⟨kvs,k,e,ey,l⟩ | ⟨kvs,k,b,e,ey,eb,l⟩
 .subst ey
  obtain⟨z,hd,vs,rel,dd⟩:=Qbw I.hok e
  refine wpAny_notIn_of (Qbv ry) hd dd.mapOf ?_
  rw[<-(rel.val k).isSome_eq,<-l]
  exact h _ (I.tok _)
 .subst ey
  cases(show u=Value.ref b from ry)
  obtain⟨z,hd,xs,rel,dd⟩:=Qdp I.hok e
  refine wpAny_notIn_heap (tupleKind_room_in1 hu) (Wv I.hok eb) hd dd ?_
  have q:=(rel.val k).isSome_eq
  rw[Option.isSome_map]at q
  rw[<-q,<-l]
  exact h _ (I.tok _)
theorem Ww{h':Heap}{t':Nat}{ob:HO}(I:Inv X pins σ H s)(mu:Mut (H a))(hs:Heap.SameBut a s.heap h')(he:∃q,h'.get? a=some q)(new:ObjOk X.prog X.w (upd H a ob) h' a ob) :
  Inv X pins σ (upd H a ob) { s with heap:=h',toks:=t' } :=
 I.write (x:=a) (e:=a) mu (.inl rfl) (fun b q hb z=>(hs.2 b hb).trans z) he new
theorem Qjz{P:Program}{w:World}{H':Hp}{h':Heap}{kvs:List (Key×V)}{vs:List (Key×Value)}(z:kvs.length<=sizeLine)(hd:(a == sysModules)=false)(rel:KV kvs vs)(dd:h'.DictOf (Xq P w) a vs) :
  ObjOk P w H' h' a (.dK kvs):=⟨z,hd,vs,rel,dd⟩
theorem Qka{H':Hp}{Q:Unit->Shared->Prop}(hu:A.units+1<cLine)(I:Inv X pins σ H s)(g:DPut H a y v H')(ry:RelV y u)(rv:RelV v r)(h:∀s',Inv X pins σ H' s'->Q () s') :
  wpAny (model X.prog X.w) A (setItem (.ref a) u r) Q E s:=by
 rcases g with⟨kvs,k,e,ey,l,eH⟩ | ⟨kvs,k,b,e,ey,eb,l,eH⟩
 .subst ey eH
  obtain⟨z,hd,vs,rel,dd⟩:=Qbx I.hok e
  have hz:vs.length<=sizeLine:=by rw[<-rel.length];exact z
  have hl:(putK kvs k v).length<=sizeLine:=by have:=Zz kvs k v;lia
  refine wpAny_setItem_pairs (hsz:=hz) (Qbv ry) dd fun h' dd' hs=>h _ ?_
  have he:∃q,h'.get? a=some q:=let ⟨q,_,_,hq,_⟩:=dd';⟨q,hq⟩
  exact Ww I (by rw[e];exact True.intro) hs he (Qjz hl hd (rel.put k rv) dd')
 .subst ey eH
  cases(show u=Value.ref b from ry)
  obtain⟨z,hd,xs,rel,dd⟩:=dt_of I.hok e
  have hz:xs.length<=sizeLine:=by rw[<-Paired.length rel];exact z
  have hl:(putK kvs k v).length<=sizeLine:=by have:=Zz kvs k v;lia
  refine wpAny_setItem_heap (hsz:=hz) (tupleKind_room_in1 hu) (Wv I.hok eb) dd fun h' dd' hs=>h _ ?_
  obtain⟨q,es,ep,hq,h2,h3,h4,_,h5⟩:=dd'
  refine Ww I (by rw[e];exact True.intro) hs ⟨q,hq⟩ ⟨hl,hd,_,(rel.put k eb rv).keeps fun c ys ec=>?_,q,es,ep,hq,h2,h3,h4,h5⟩
  rw[Qj (Yl ec e (fun z=>nomatch z))]
  exact ec
end
section
variable{X:Cx}{pins:List (Addr×Obj)}{σ:St}{H:Hp}{s:Shared}{a:Addr}{kvs:List (Key×V)}{k:Key}{u:Value}{A:Around}{E:Value->Shared->Prop}
theorem d_pop{v:V}{more:List Value}{Q:Value->Shared->Prop}(I:Inv X pins σ H s)(e:H a=some (.dK kvs))(ry:RelV (kV k) u)(l:valV kvs k=some v)(hm:more=[]\/∃x,more=[x])
  (h:∀w' s',Inv X pins σ (upd H a (.dK (Qev kvs k))) s'->RelV v w'->Q w' s'):wpAny (model X.prog X.w) A (call (.builtin "dict.pop") (.ref a::u::more)) Q E s:=by
 obtain⟨z,hd,vs,rel,dd⟩:=Qbx I.hok e
 obtain⟨w',hw,rw'⟩:=RelO.some_of (v:=v) (o:=valueAt vs k) (by rw[<-l];exact rel.val k)
 have hp:(keyPart u).isSome=true:=by
  cases k with
  |inl i=>obtain⟨t,q⟩:=(show ∃t,u=Value.int i t from ry);subst q;rfl
  |inr x=>obtain⟨t,q⟩:=(show ∃t,u=Value.str x t from ry);subst q;rfl
 have ha:argsOk "dict.pop" ⟨.ref a::u::more,[]⟩:=by
  rcases hm with q | ⟨x,q⟩
  .subst q;exact PySem.F.args_dict_pop_2 _ _
  .subst q;exact PySem.F.args_dict_pop_3 _ _ _
 refine call_meetsIn PySem.F.slot_dict_pop dd.typeIs PySem.F.entry_dict_pop ha (meets_dict_pop_there (Xq X.prog X.w) a (Qbv ry) more hm hp)
  ⟨vs,w',dd,by rw[<-rel.length];exact z,hw,fun h' dd' hs=>h w' _ ?_ rw'⟩
 have he:∃q,h'.get? a=some q:=let ⟨q,_,_,hq,_⟩:=dd';⟨q,hq⟩
 exact Ww I (by rw[e];exact True.intro) hs he (Qjz (jQb (Qni kvs k) z) hd (rel.drop k) dd')
theorem d_popD{r:Value}{Q:Value->Shared->Prop}(I:Inv X pins σ H s)(e:H a=some (.dK kvs))(ry:RelV (kV k) u)(l:valV kvs k=none)(h:∀s',Inv X pins σ H s'->Q r s') :
  wpAny (model X.prog X.w) A (call (.builtin "dict.pop") [.ref a,u,r]) Q E s:=by
 obtain⟨z,hd,vs,rel,dd⟩:=Qbx I.hok e
 have hn:valueAt vs k=none:=RelO.none_of (by rw[<-l];exact rel.val k)
 have hp:(keyPart u).isSome=true:=by
  cases k with
  |inl i=>obtain⟨t,q⟩:=(show ∃t,u=Value.int i t from ry);subst q;rfl
  |inr x=>obtain⟨t,q⟩:=(show ∃t,u=Value.str x t from ry);subst q;rfl
 exact call_meetsIn PySem.F.slot_dict_pop dd.typeIs PySem.F.entry_dict_pop (PySem.F.args_dict_pop_3 _ _ _) (meets_dict_pop_default (Xq X.prog X.w) a (Qbv ry) hd hp r) ⟨vs,dd,hn,h _ (I.tok _)⟩
theorem d_len{Q:Value->Shared->Prop}(I:Inv X pins σ H s)(e:Rd H a (.dK kvs))(h:∀t s',Inv X pins σ H s'->Q (.int kvs.length t) s'):wpAny (model X.prog X.w) A (call (.builtin "len") [.ref a]) Q E s:=by
 obtain⟨z,hd,vs,rel,dd⟩:=Qbw I.hok e
 refine call_len_dict hd dd (by rw[<-rel.length];rw[sizeLine_eq]at z;lia) ?_
 rw[<-rel.length]
 exact h _ _ (I.tok _)
end
def NoSl(i:Expr):Prop:=∀ov iv,subscripted i false ov iv=operate [ov,iv] (getItem ov iv)
theorem Qrt{prog:Program}{w:World}{A:Around}{E:Value->Shared->Prop}{s:Shared}{env:Env}{value slice:Expr}{pos:Pos}{T id:String}{Q:Value->Shared->Prop}
  (hl:typeLookup (.type T) "__getitem__"=pure (some (.builtin id))) (hs:NoSl slice)
  (h:wpAny (model prog w) A (eval value env) (fun o s₁=>wpAny (model prog w) A (eval slice env) (fun i s₂=>s₂.TypeIs o T/\wpAny (model prog w) A (getItem o i) Q E s₂) E s₁) E s) :
  wpAny (model prog w) A (eval (.Subscript value slice pos) env) Q E s:=by
 refine Subscript_ (wpAny_mono h (fun o s₁ h₁=>wpAny_mono h₁ (fun i s₂ h₂=>?_) fun _ _ x=>x) fun _ _ x=>x)
 obtain⟨hT,h₂⟩:=h₂
 unfold subscriptTail
 refine jX ?_
 rw[getitemInPython_of_ne hT.not_modules]
 refine jX (wpAny_specialOf hT hl ?_)
 have fin:wpAny (model prog w) A (subscripted slice false o i) (fun r s₃=>wpAny (model prog w) A (letTemporaryGo value o r >>= fun _=>pure r) Q E s₃) E s₂:=by
  rw[hs o i]
  exact wpAny_operating (wpAny_mono h₂ (fun r s₃ h₃=>jX (wpAny_letTemporaryGo (zX h₃))) fun _ _ x=>x)
 first
  |exact zX (jX fin)
  |exact jX (zX (jX fin))
  |exact jX fin
theorem Qew{X:Cx}{pins:List (Addr×Obj)}{σ:St}{H:Hp}{s:Shared}{a:Addr}{y:V}{o:Option V}(I:Inv X pins σ H s)(g:DGet H a y o):s.TypeIs (.ref a) "dict":=by
 rcases g with⟨kvs,k,e,_,_⟩ | ⟨kvs,k,b,e,_,_,_⟩
 .obtain⟨_,_,vs,_,dd⟩:=Qbw I.hok e
  exact dd.typeIs
 .obtain⟨_,_,xs,_,dd⟩:=Qdp I.hok e
  exact dd.typeIs
def tDGet(td ty:TE):TE:=fun σ H Q=>td σ H fun x H1=>ty σ H1 fun y H2=>∃a v,x=.ref a/\DGet H2 a y (some v)/\Q v H2
def tDIn(ty td:TE):TE:=fun σ H Q=>ty σ H fun y H1=>td σ H1 fun x H2=>∃a o,x=.ref a/\DGet H2 a y o/\Q (.bl o.isSome) H2
def Qru(ty td:TE):TE:=fun σ H Q=>ty σ H fun y H1=>td σ H1 fun x H2=>∃a o,x=.ref a/\DGet H2 a y o/\Q (.bl (!o.isSome)) H2
def sDPut(td ty tv:TE):TS:=fun D σ H=>tv σ H fun v H1=>td σ H1 fun x H2=>ty σ H2 fun y H3=>∃a H4,x=.ref a/\DPut H3 a y v H4/\D.nx σ H4
section
variable{X:Cx}{o i value:Expr}{pos pos':Pos}{td ty tv:TE}
theorem Jp(hu:X.A.units+1<cLine)(ho:PE X o td)(hi:PE X i ty)(hs:NoSl i):PE X (.Subscript o i pos) (tDGet td ty):=by
 intro pins s σ H Q I h
 refine Qrt PySem.F.slot_dict_getitem.lookup hs (thn (ho pins s σ H _ I h) fun u s1 ⟨x,H1,I1,rx,q1⟩=>thn (hi pins s1 σ H1 _ I1 q1) fun iv s2 hqP=>?_)
 obtain⟨y,H2,I2,ry,a,v,ex,g,q2⟩:=hqP
 subst ex
 obtain rfl:u=Value.ref a:=rx
 exact⟨Qew I2 g,Qjy hu I2 g ry fun w' s3 I3 rw'=>⟨v,H2,I3,rw',q2⟩⟩
theorem Qpt(hu:X.A.units+1<cLine)(hi:PE X i ty)(ho:PE X o td):PC X .In i o (tDIn ty td):=by
 intro pins s σ H Q I h
 refine thn (hi pins s σ H _ I h) fun iv s1 ⟨y,H1,I1,ry,q1⟩=>thn (ho pins s1 σ H1 _ I1 q1) fun u s2 hqP=>?_
 obtain⟨x,H2,I2,rx,a,ov,ex,g,q2⟩:=hqP
 subst ex
 obtain rfl:u=Value.ref a:=rx
 exact d_in hu I2 g ry fun s3 I3=>⟨.bl ov.isSome,H2,I3,rfl,q2⟩
theorem Qkb(hu:X.A.units+1<cLine)(hi:PE X i ty)(ho:PE X o td):PC X .NotIn i o (Qru ty td):=by
 intro pins s σ H Q I h
 refine thn (hi pins s σ H _ I h) fun iv s1 ⟨y,H1,I1,ry,q1⟩=>thn (ho pins s1 σ H1 _ I1 q1) fun u s2 hqP=>?_
 obtain⟨x,H2,I2,rx,a,ov,ex,g,q2⟩:=hqP
 subst ex
 obtain rfl:u=Value.ref a:=rx
 exact Qrs hu I2 g ry fun s3 I3=>⟨.bl (!ov.isSome),H2,I3,rfl,q2⟩
theorem Qex(hu:X.A.units+1<cLine)(ho:PE X o td)(hi:PE X i ty)(hv:PE X value tv)(hs:swapsWith value (some (.Subscript o i pos')) pos.line X.env=pure false) :
  PS X (.Assign [.Subscript o i pos'] value pos) (sDPut td ty tv):=by
 intro pins s σ H D I h
 refine wpAny_Assign_Subscript (thn (hv pins s σ H _ I h) fun r s1 ⟨v,H1,I1,rv,q1⟩=>thn (ho pins s1 σ H1 _ I1 q1) fun u s2 ⟨x,H2,I2,rx,q2⟩=>thn (hi pins s2 σ H2 _ I2 q2) fun iv s3 hqP=>?_) hs
 obtain⟨y,H3,I3,ry,a,H4,ex,g,q3⟩:=hqP
 subst ex
 obtain rfl:u=Value.ref a:=rx
 exact Qka hu I3 g ry rv fun s4 I4=>⟨σ,H4,I4,q3⟩
end
theorem Qgc{P:Program}{w:World}{H:Hp}(h:Heap)(hb:sysModules<h.objs.size):ObjOk P w H (h.push { cls:=.type "dict",data:=.dict #[] }) h.objs.size (.dK []) :=
 ⟨jQc _,beq_eq_false_iff_ne.mpr (Ne.symm (zJ hb)),[],.nil,Heap.DictOf.new h⟩
def tDNewK:TE:=fun _ H Q=>∀p,H p=none->Q (.ref p) (upd H p (.dK []))
section
variable{X:Cx}{pos:Pos}
theorem Qby:PE X (.Dict [] [] pos) tDNewK:=fun pins s σ H Q I h=>
 wpAny_Dict_empty ⟨.ref s.heap.objs.size,_,I.laid (a:=s.heap.objs.size) (o:=.dK []) (t':=s.toks) (fun _ _ q=>jK _ q) (jY _) (Qgc s.heap I.big),rfl,h _ (I.hok.fresh (jY _))⟩
end
structure M1(X:Cx)(o:Expr)(m:Str)(apos:Pos)(e:Expr)(cpos:Pos):Prop where
 base:attributeBase o m X.env (eval o X.env)=eval o X.env
 few:((backTo cpos (starEach [e] X.env)).all (fun x=>!x.1)&&(backToKw cpos (keywordEach [] X.env)).all (fun x=>x.1.isSome)
  && decide (([e]:List Expr).length+([]:List Keyword).length+(if ([]:List Keyword).isEmpty then 0 else 1)<30))=true
 line:(apos.endLine == cpos.line)=true
 trees:backTo cpos (starEach [e] X.env)=[(false,eval e X.env)]
structure M2(X:Cx)(o:Expr)(m:Str)(apos:Pos)(e f:Expr)(cpos:Pos):Prop where
 base:attributeBase o m X.env (eval o X.env)=eval o X.env
 few:((backTo cpos (starEach [e,f] X.env)).all (fun x=>!x.1)&&(backToKw cpos (keywordEach [] X.env)).all (fun x=>x.1.isSome)
  && decide (([e,f]:List Expr).length+([]:List Keyword).length+(if ([]:List Keyword).isEmpty then 0 else 1)<30))=true
 line:(apos.endLine == cpos.line)=true
 trees:backTo cpos (starEach [e,f] X.env)=[(false,eval e X.env),(false,eval f X.env)]
def IsD(H:Hp)(a:Addr):Prop:=(∃kvs,Rd H a (.dK kvs))\/∃kvs,Rd H a (.dT kvs)
theorem Qkc{X:Cx}{pins:List (Addr×Obj)}{σ:St}{H:Hp}{s:Shared}{a:Addr}(I:Inv X pins σ H s)(d:IsD H a) :
  s.TypeIs (.ref a) "dict"/\(∀b,Value.ref a=.ref b->∃ob,s.heap.get? b=some ob/\ob.dict=none)/\(a == sysModules)=false:=by
 rcases d with⟨kvs,e⟩ | ⟨kvs,e⟩
 .obtain⟨_,hd,vs,_,dd⟩:=Qbw I.hok e
  refine⟨dd.typeIs,fun b q=>?_,hd⟩
  cases q
  obtain⟨ob,_,_,h1,h2,_⟩:=dd
  exact⟨ob,h1,h2.2.1⟩
 .obtain⟨_,hd,xs,_,dd⟩:=Qdp I.hok e
  refine⟨dd.typeIs,fun b q=>?_,hd⟩
  cases q
  obtain⟨ob,_,_,h1,h2,_⟩:=dd
  exact⟨ob,h1,h2.2.1⟩
section
variable{X:Cx}{pins:List (Addr×Obj)}{σ:St}{H:Hp}{s:Shared}{a:Addr}{y d:V}{u r:Value}{o:Option V}{A:Around}{E:Value->Shared->Prop}
theorem d_get1{Q:Value->Shared->Prop}(hu:A.units+1<cLine)(I:Inv X pins σ H s)(g:DGet H a y o)(ry:RelV y u)(h:∀w' s',Inv X pins σ H s'->RelV (o.getD .non) w'->Q w' s') :
  wpAny (model X.prog X.w) A (call (.builtin "dict.get") [.ref a,u]) Q E s:=by
 rcases g with⟨kvs,k,e,ey,l⟩ | ⟨kvs,k,b,e,ey,eb,l⟩
 .subst ey
  obtain⟨z,hd,vs,rel,dd⟩:=Qbw I.hok e
  refine call_meetsIn PySem.F.slot_dict_get dd.typeIs PySem.F.entry_dict_get (PySem.F.args_dict_get_2 _ _) (meets_dict_get (Xq X.prog X.w) a (Qbv ry) hd) ⟨_,dd.mapOf,h _ _ (I.tok _) ?_⟩
  rw[l]
  exact(rel.val k).getD rfl
 .subst ey
  cases(show u=Value.ref b from ry)
  obtain⟨z,hd,xs,rel,dd⟩:=Qdp I.hok e
  refine call_meetsIn PySem.F.slot_dict_get dd.typeIs PySem.F.entry_dict_get (PySem.F.args_dict_get_2 _ _) (meetsH_dict_get (tupleKind (Xq X.prog X.w)) a b hd) ⟨tupleKind_room_in1 hu,k,xs,Wv I.hok eb,dd,h _ _ (I.tok _) ?_⟩
  rw[l]
  exact(rel.val k).getD rfl
theorem d_get2{Q:Value->Shared->Prop}(hu:A.units+1<cLine)(I:Inv X pins σ H s)(g:DGet H a y o)(ry:RelV y u)(rd:RelV d r)(h:∀w' s',Inv X pins σ H s'->RelV (o.getD d) w'->Q w' s') :
  wpAny (model X.prog X.w) A (call (.builtin "dict.get") [.ref a,u,r]) Q E s:=by
 rcases g with⟨kvs,k,e,ey,l⟩ | ⟨kvs,k,b,e,ey,eb,l⟩
 .subst ey
  obtain⟨z,hd,vs,rel,dd⟩:=Qbw I.hok e
  refine call_meetsIn PySem.F.slot_dict_get dd.typeIs PySem.F.entry_dict_get (PySem.F.args_dict_get_3 _ _ _) (meets_dict_get_default (Xq X.prog X.w) a (Qbv ry) hd r) ⟨_,dd.mapOf,h _ _ (I.tok _) ?_⟩
  rw[l]
  exact(rel.val k).getD rd
 .subst ey
  cases(show u=Value.ref b from ry)
  obtain⟨z,hd,xs,rel,dd⟩:=Qdp I.hok e
  refine call_meetsIn PySem.F.slot_dict_get dd.typeIs PySem.F.entry_dict_get (PySem.F.args_dict_get_3 _ _ _) (meetsH_dict_get_default (tupleKind (Xq X.prog X.w)) a b hd r) ⟨tupleKind_room_in1 hu,k,xs,Wv I.hok eb,dd,h _ _ (I.tok _) ?_⟩
  rw[l]
  exact(rel.val k).getD rd
end
def tDGet1(td ty:TE):TE:=fun σ H Q=>td σ H fun x H1=>∃a,x=.ref a/\IsD H1 a/\ty σ H1 fun y H2=>∃o,DGet H2 a y o/\Q (o.getD .non) H2
def tDGet2(td ty tx:TE):TE:=fun σ H Q=>td σ H fun x H1=>∃a,x=.ref a/\IsD H1 a/\ty σ H1 fun y H2=>tx σ H2 fun z H3=>∃o,DGet H3 a y o/\Q (o.getD z) H3
def tDPop2(td ty tx:TE):TE:=fun σ H Q=>td σ H fun x H1=>∃a,x=.ref a/\IsD H1 a/\ty σ H1 fun y H2=>tx σ H2 fun z H3=>∃kvs k,H3 a=some (.dK kvs)/\y=kV k /\
 (∀v,valV kvs k=some v->Q v (upd H3 a (.dK (Qev kvs k))))/\(valV kvs k=none->Q z H3)
section
variable{X:Cx}{o e f:Expr}{apos cpos:Pos}{td ty tx:TE}
theorem Qnj(hu:X.A.units+1<cLine)(ho:PE X o td)(he:PE X e ty)(m:M1 X o "get" apos e cpos):PE X (.Call (.Attribute o "get" apos) [e] [] cpos) (tDGet1 td ty):=by
 intro pins s σ H Q I h
 refine wpAny_Call_method m.base m.few m.line PySem.F.plainAttrs_dict PySem.F.slot_dict_get PySem.F.type_dict_get (thn (ho pins s σ H _ I h) fun u s1 hqP=>?_)
 obtain⟨x,H1,I1,rx,a,ex,d,q1⟩:=hqP
 subst ex
 obtain rfl:u=Value.ref a:=rx
 obtain⟨t1,t2,_⟩:=Qkc I1 d
 refine⟨t1,t2,?_⟩
 rw[m.trees]
 refine Calls.callWith_builtin rfl (Calls.evalArgs_plain (Calls.spliced_cons (thn (he pins s1 σ H1 _ I1 q1) fun iv s2 ⟨y,H2,I2,ry,ov,g,q2⟩=>Calls.spliced_nil ?_)))
 exact d_get1 hu I2 g ry fun w' s3 I3 rw'=>⟨_,H2,I3,rw',q2⟩
theorem Qnk(hu:X.A.units+1<cLine)(ho:PE X o td)(he:PE X e ty)(hf:PE X f tx)(m:M2 X o "get" apos e f cpos):PE X (.Call (.Attribute o "get" apos) [e,f] [] cpos) (tDGet2 td ty tx):=by
 intro pins s σ H Q I h
 refine wpAny_Call_method m.base m.few m.line PySem.F.plainAttrs_dict PySem.F.slot_dict_get PySem.F.type_dict_get (thn (ho pins s σ H _ I h) fun u s1 hqP=>?_)
 obtain⟨x,H1,I1,rx,a,ex,d,q1⟩:=hqP
 subst ex
 obtain rfl:u=Value.ref a:=rx
 obtain⟨t1,t2,_⟩:=Qkc I1 d
 refine⟨t1,t2,?_⟩
 rw[m.trees]
 refine Calls.callWith_builtin rfl (Calls.evalArgs_plain (Calls.spliced_cons (thn (he pins s1 σ H1 _ I1 q1) fun iv s2 ⟨y,H2,I2,ry,q2⟩=>
  Calls.spliced_cons (thn (hf pins s2 σ H2 _ I2 q2) fun fv s3 ⟨z,H3,I3,rz,ov,g,q3⟩=>Calls.spliced_nil ?_))))
 exact d_get2 hu I3 g ry rz fun w' s4 I4 rw'=>⟨_,H3,I4,rw',q3⟩
theorem Qnl(ho:PE X o td)(he:PE X e ty)(hf:PE X f tx)(m:M2 X o "pop" apos e f cpos):PE X (.Call (.Attribute o "pop" apos) [e,f] [] cpos) (tDPop2 td ty tx):=by
 intro pins s σ H Q I h
 refine wpAny_Call_method m.base m.few m.line PySem.F.plainAttrs_dict PySem.F.slot_dict_pop PySem.F.type_dict_pop (thn (ho pins s σ H _ I h) fun u s1 hqP=>?_)
 obtain⟨x,H1,I1,rx,a,ex,d,q1⟩:=hqP
 subst ex
 obtain rfl:u=Value.ref a:=rx
 obtain⟨t1,t2,_⟩:=Qkc I1 d
 refine⟨t1,t2,?_⟩
 rw[m.trees]
 refine Calls.callWith_builtin rfl (Calls.evalArgs_plain (Calls.spliced_cons (thn (he pins s1 σ H1 _ I1 q1) fun iv s2 ⟨y,H2,I2,ry,q2⟩=>
  Calls.spliced_cons (thn (hf pins s2 σ H2 _ I2 q2) fun fv s3 ⟨z,H3,I3,rz,kvs,k,ea,ey,q3,q4⟩=>Calls.spliced_nil ?_))))
 subst ey
 cases l:valV kvs k with
 |some v=>exact d_pop I3 ea ry l (.inr ⟨fv,rfl⟩) fun w' s4 I4 rw'=>⟨v,_,I4,rw',q3 v l⟩
 |none=>exact d_popD I3 ea ry l fun s4 I4=>⟨z,H3,I4,rz,q4 l⟩
end
end L2
namespace Att
open PySem PySem.W PySem.Calls PyProof.Rows
end Att
namespace L2
open PySem PySem.Spec PyProof.Rows
section
variable{X:Cx}
theorem Qdq:Zv X (.builtin "len") (fun xs H Q=>∃a kvs,xs=[V.ref a]/\H a=some (.dK kvs)/\Q (.int kvs.length) H):=by
 intro pins s σ H xs us Q I r h
 obtain⟨a,kvs,rfl,ha,q⟩:=h
 obtain⟨u,rfl,ru⟩:=vals1 r
 cases ru
 exact d_len I (.inl ha) fun t s' I'=>⟨.int kvs.length,H,I',⟨t,rfl⟩,q⟩
end
theorem Qdr:typeLookup (.type "list") "keys"=pure none:=by rw[typeLookup_type,builtinLookup_eq_fast];kernel_rfl
section
variable{prog:Program}{w:World}{A:Around}{E:Value->Shared->Prop}
theorem Qbz{s:Shared}{a:Addr}{xs:Array Value}{k:Nat}{sl:Array (Option Value)}{Q:Option Value->Shared->Prop}(hx:s.heap.get? a=some { cls:=.type "list",dict:=none,data:=.seq xs k,slots:=sl })(hA:A.handled=none)
  (h:∀h' tk,(∀b o,s.heap.get? b=some o->h'.get? b=some o)->Q none { s with heap:=h',toks:=tk }):wpAny (model prog w) A (getAttr? (.ref a) "keys") Q E s:=by
 obtain⟨hp,g,d,tk,os⟩:=s
 have hT:∀tk',(⟨hp,g,d,tk',os⟩:Shared).TypeIs (.ref a) "list":=fun _=>⟨_,hx,rfl⟩
 have f1:=sub_AttributeError
 have f3:=F.slot_list_getattribute.lookup
 have f4:=F.slot_list_getattribute.bind (.ref a)
 have f5:=am_list_getattr_none
 have hname:(["__module__","__name__","__qualname__","__doc__","__annotations__"]:List Str).contains "keys"=false:=Dk
 unfold getAttr? getAttrBy? getAttrBy
 repeat (any_goals (first | assumption | exact hT _ | ((with_reducible show wpAny _ _ (call (Value.builtin "list.__getattribute__") _ _) _ _ _);refine call_meets F.slot_list_getattribute (hT _) am_entry_list_getattribute (F.args_list_getattribute_2 _ _) (meets_getattribute_miss_list a xs k sl "keys" _ Qdr hname Dk) ⟨hx,hA,fun h' tk' e hx'=>?_⟩) | wp_step))
 have hxo:=hx'.of
 obtain⟨⟨cl,dc,da,sl2⟩,vs,he,hc,_,_⟩:=hxo.there
 simp only at hc
 subst hc
 have hE:∀tk2,(⟨h',g,d,tk2,os⟩:Shared).TypeIs (.ref e) "AttributeError":=fun _=>⟨_,he,rfl⟩
 show wpAny _ _ (getattributeRaised _ _ _ _ _ _ _) _ _ _
 unfold getattributeRaised
 repeat (any_goals (first | assumption | exact hE _ | wp_step))
 all_goals exact h _ _ hxo.keeps
end
def Qds:entryFor table "dict.update.loop"=some Builtin.«dict.update.loop»:=entryFor_of_tree (by kernel_rfl)
theorem Kz:plainId "dict.update.loop"=true:=Dk
section
variable{X:Cx}
def PairsAre(K:Fg)(H:Hp):List V->List (Int×V)->Prop:=Paired fun v p=>∃t,v=.ref t/\SqT K H t [.int p.1,p.2]
theorem PairsAre.get{K:Fg}{H:Hp}{vs:List V}{ps:List (Int×V)}(h:PairsAre K H vs ps):∀{i:Nat} {v:V},vs[i]?=some v->∃t p,v=.ref t/\ps[i]?=some p/\SqT K H t [.int p.1,p.2]:=by
 induction h with
 |nil=>intro i v e;simp at e
 |cons q t ih=>
  intro i v e
  cases i with
  |zero=>obtain⟨a,e1,z⟩:=q;simp at e;subst e;exact⟨a,_,e1,rfl,z⟩
  |succ i=>obtain⟨a,r,e1,e2,z⟩:=ih (i:=i) (v:=v) (by simpa using e);exact⟨a,r,e1,by simpa using e2,z⟩
theorem PairsAre.imp{K:Fg}{H H':Hp}{vs:List V}{ps:List (Int×V)}(f:∀t xs,SqT K H t xs->SqT K H' t xs)(h:PairsAre K H vs ps):PairsAre K H' vs ps:=by
 induction h with
 |nil=>exact .nil
 |cons r t ih=>obtain⟨a,e,z⟩:=r;exact .cons ⟨a,e,f _ _ z⟩ ih
theorem PairsAre.length{K:Fg}{H:Hp}{vs:List V}{ps:List (Int×V)}(h:PairsAre K H vs ps):vs.length=ps.length:=Paired.length h
def Yw(ps:List (Int×V)):List (Key×V):=ps.foldl (fun d p=>putK d (Sum.inl p.1) p.2) []
theorem Qdt{ps:List (Int×V)}{i:Nat}{p:Int×V}(h:ps[i]?=some p):Yw (ps.take (i+1))=putK (Yw (ps.take i)) (Sum.inl p.1) p.2:=by
 unfold Yw
 rw[kJb,h,kJe]
 rfl
theorem Qey(ps:List (Int×V)):(Yw ps).length<=ps.length:=by
 have:∀(l:List (Int×V)) (d:List (Key×V)),(l.foldl (fun d p=>putK d (Sum.inl p.1) p.2) d).length<=d.length+l.length:=by
  intro l
  induction l with
  |nil=>intro d;simp
  |cons p r ih=>intro d;have:=ih (putK d (Sum.inl p.1) p.2);have h2:=Zz d (Sum.inl p.1:Key) p.2;simp only[kQb,xQ]at *;lia
 exact jQb (this ps []) (by simp)
theorem Qnm{pins:List (Addr×Obj)}{σ:St}{H:Hp}{d it l:Addr}{vs:List V}{ps:List (Int×V)}{A:Around}{R:Result->Shared->Prop}(hh:A.handled=none)(hd:H d=none)(hl:SqL X.K H l vs)(hp:PairsAre X.K H vs ps)(hz:ps.length<sizeLine)
  (hR:∀s',Inv X pins σ (upd H d (.dK (Yw ps))) s'->R (.ok (.ret .none)) s') :
  ∀(k i:Nat) (s:Shared),ps.length-i=k->i<=ps.length->Inv X pins σ (upd H d (.dK (Yw (ps.take i)))) s->s.heap.IsListIter it l i->FpOk X pins (upd H d (.dK (Yw (ps.take i)))) it ->
   codeAny (model X.prog X.w) A (.builtin "dict.update.loop" ⟨[.ref d,.ref it,rawInt i,.none],[]⟩) R s:=by
 intro k
 induction k with
 |zero=>
  intro i s hk hi I st f
  have ei:i=ps.length:=Om
  subst ei
  rw[wY]at I f
  have sm:Same H (upd H d (.dK (Yw ps))):=Qd hd _
  obtain⟨its,r,p,_⟩:=I.list (sm.seq hl)
  have lv:=hp.length
  have lr:=r.length
  refine codeAny_builtin Qds ?_
  rw[Around.under_plainId Kz _]
  show wpAny _ A.in1 (pyNext (.ref it) >>= _) _ _ s
  refine jX (wpAny_pyNext_list_end (A:=A.in1) hh st p.isList (by simp;lia) fun h' eb=>?_)
  refine jX (zX (zX ?_))
  exact hR _ (I.turned (t':=s.toks) (fun b o hb e=>eb b o hb e) f.1 f.2.1 f.2.2.2.1 f.2.2.2.2.1 f.2.2.2.2.2)
 |succ k ih=>
  intro i s hk hi I st f
  have sm:Same H (upd H d (.dK (Yw (ps.take i)))):=Qd hd _
  obtain⟨its,r,p,_⟩:=I.list (sm.seq hl)
  have lv:=hp.length
  have hlt:i<vs.length:=Om
  obtain⟨t,pr,ev,ep,hT⟩:=hp.get (gE hlt)
  obtain⟨u,hu,ru⟩:=r.get (gE hlt)
  rw[ev]at ru
  cases ru
  refine codeAny_builtin Qds ?_
  rw[Around.under_plainId Kz _]
  show wpAny _ A.in1 (pyNext (.ref it) >>= _) _ _ s
  refine jX (wpAny_pyNext_list_item st p.isList (x:=.ref t) (by simpa using hu) fun h' st' sb=>?_)
  have I1:Inv X pins σ (upd H d (.dK (Yw (ps.take i)))) { s with heap:=h' }:=I.turned (t':=s.toks) (fun b o hb e=>(sb.2 b hb).trans e) f.1 f.2.1 f.2.2.2.1 f.2.2.2.2.1 f.2.2.2.2.2
  obtain⟨its2,r2,⟨ot,gt,ct,nt,dt⟩,_⟩:=I1.tuple (sm.tup hT)
  obtain⟨u1,u2,rfl,⟨tk1,rfl⟩,ru2⟩:=r2.two
  refine jX (wpAny_holding ?_)
  refine jX (wpAny_tryCatch ?_)
  unfold Builtin.Dict.pairItems
  refine jX (wpAny_typeOf (T:="tuple") ⟨ot,gt,ct⟩ ?_)
  rw[if_pos (by simp)]
  refine jX (wpAny_seqItems gt dt (zX ?_))
  show wpAny _ _ (holding [Value.int pr.1 tk1,u2] (dictSet d (Value.int pr.1 tk1) u2)) _ _ _
  obtain⟨z,hdS,kv,rel,dd⟩:=Qbx I1.hok (Qc (H:=H) (a:=d) (o:=.dK (Yw (ps.take i))))
  have l1:=Qey (ps.take i)
  rw[xJ]at l1
  have hz2:kv.length<=sizeLine:=by rw[<-rel.length];exact z
  refine wpAny_holding (wpAny_dictSet_pairs (hsz:=hz2) (knd:=Xq X.prog X.w) (k:=(Sum.inl pr.1:Key)) (Wg _ _ _ _) dd fun h2 dd' hs2=>?_)
  have he2:∃q,h2.get? d=some q:=let ⟨q,_,_,hq,_⟩:=dd';⟨q,hq⟩
  have l2:=Zz (Yw (ps.take i)) (Sum.inl pr.1:Key) pr.2
  have I2:Inv X pins σ (upd (upd H d (.dK (Yw (ps.take i)))) d (.dK (putK (Yw (ps.take i)) (Sum.inl pr.1) pr.2))) { s with heap:=h2,toks:=s.toks+1 } :=
   Ww (s:={ s with heap:=h' }) I1 (by rw[Qc];exact True.intro) hs2 he2 (Qjz Om hdS (rel.put _ ru2) dd')
  rw[Qra,<-Qdt ep]at I2
  have nit:it≠d:=fun e=>by have:=f.1;rw[e,Qc]at this;cases this
  refine zX ⟨plainId_quiet Kz _,?_⟩
  have ei:rawInt ((i:Int)+1)=rawInt ((i+1:Nat):Int):=by push_cast;rfl
  rw[ei]
  refine ih (i+1) _ Om Om I2 (st'.at fun o e=>hs2.extBut _ _ nit e) ⟨?_,f.2⟩
  have:=f.1
  rw[Qj nit]at this⊢
  exact this
theorem Qdu(hc:X.calm=true):Zv X (.type "dict") (fun xs H Q=>∃(l:Addr) (vs:List V) (ps:List (Int×V)),xs=[.ref l]/\SqL X.K H l vs/\PairsAre X.K H vs ps/\ps.length<sizeLine/\∀d,H d=none->Q (.ref d) (upd H d (.dK (Yw ps)))):=by
 intro pins s σ H xs us Q I rv h
 obtain⟨l,vs,ps,rfl,hl,hp,hz,q⟩:=h
 obtain⟨u,rfl,ru⟩:=rv.one
 cases ru
 refine callType_codes (Q₁:=fun obj s1=>obj=.ref s.heap.objs.size/\s1={ s with heap:=s.heap.push { cls:=.type "dict",data:=.dict #[] } }) F.kt_called_dict (F.kt_typeCall_dict_1 _) F.entry_dict_init (kt_code_dict_new _ ⟨rfl,rfl⟩) ?_
 rintro obj s1 ⟨rfl,rfl⟩
 have hd:H s.heap.objs.size=none:=I.hok.fresh (jY _)
 have I1:Inv X pins σ (upd H s.heap.objs.size (.dK [])) { s with heap:=s.heap.push { cls:=.type "dict",data:=.dict #[] } }:=I.laid (t':=s.toks) (fun _ _ q=>jK _ q) (jY _) (Qgc s.heap I.big)
 have sm:Same H (upd H s.heap.objs.size (.dK [])):=Qd hd _
 obtain⟨z,hdS,kv,rel,dd⟩:=Qbx I1.hok (Qc (H:=H) (a:=s.heap.objs.size) (o:=.dK []))
 refine⟨dd.typeIs,F.args_dict_init_2 _ _,?_⟩
 unfold Builtin.«dict.__init__»
 refine jX ?_
 unfold Builtin.Dict.selfAndRest
 refine jX (wpAny_notOrdered_dict dd.typeIs ?_)
 show wpAny _ _ (pure (s.heap.objs.size,[Value.ref l])) _ _ _
 refine zX ?_
 show wpAny _ _ (Builtin.Dict.updateFrom "dict.__init__" s.heap.objs.size (.ref l) [] .none) _ _ _
 unfold Builtin.Dict.updateFrom
 obtain⟨its,r,⟨o,n,e,c,dn,sl⟩,_⟩:=I1.list (sm.seq hl)
 obtain⟨cls,dct,dat,sls⟩:=o
 simp only at c dn sl
 subst c dn sl
 refine jX (wpAny_typeOf (T:="list") ⟨_,e,rfl⟩ ?_)
 rw[if_pos Dc]
 refine jX (Qbz (s:={ s with heap:=s.heap.push { cls:=.type "dict",data:=.dict #[] } }) e (by exact I.ok.hd hc) fun h2 tk2 hk2=>?_)
 have I2:Inv X pins σ (upd H s.heap.objs.size (.dK [])) { s with heap:=h2,toks:=tk2 }:=I1.kept hk2
 rw[if_pos (by rfl)]
 refine jX (wpAny_rule (jX ?_))
 obtain⟨its2,r2,p2,_⟩:=I2.list (sm.seq hl)
 refine wpAny_pyIter_list (s:={ s with heap:=h2,toks:=tk2 }) p2.isList ?_
 refine zX ⟨plainId_quiet Kz _,?_⟩
 have I3:Inv X pins σ (upd H s.heap.objs.size (.dK [])) { s with heap:=h2.push { cls:=.type "list_iterator",data:=.fields #[.ref l,.int 0 0] },toks:=tk2 }:=I2.kept (t':=tk2) fun b o e=>jK _ e
 have hfr:=I2.hok.fresh (a:=h2.objs.size) (jY _)
 refine Qnm (X:=X) (pins:=pins) (σ:=σ) (H:=H) (vs:=vs) (ps:=ps) (A:=X.A.in1) (by exact I.ok.hd hc) hd hl hp hz (fun s' I'=>⟨rfl,.ref s.heap.objs.size,_,I',rfl,q _ hd⟩) ps.length 0 _ Om (jQc _) I3 ⟨_,yJ _ rfl,rfl,rfl⟩ (I2.fpOk (jY _) hfr)
end
section
variable{P:Program}{w:World}{A:Around}{E:Value->Shared->Prop}{s:Shared}{e it l:Addr}{st:Nat->Heap->Prop}{src:List Value->Heap->Prop}{i:Nat}{xs:List Value}{old:Value}
theorem Qca{x:Value}{Q:Option Value->Shared->Prop}(dr:Drw P w it l st src)(hE:IsEnum s.heap e it i old)(hI:st i s.heap)(hl:src xs s.heap)(hx:xs[i]?=some x)(hne:e≠it)
  (hQ:∀h',IsEnumOut h' e it ((i:Int)+1) x s.heap.objs.size->st (i+1) h'->h'.get? s.heap.objs.size=some { cls:=.type "tuple",data:=.seq #[.int i s.toks,x] } ->
   (∀b o,b≠e->b≠it->s.heap.get? b=some o->h'.get? b=some o)->Q (some (.ref s.heap.objs.size)) { s with heap:=h',toks:=s.toks+1 }):wpAny (model P w) A (pyNext (.ref e)) Q E s:=by
 have hTy:s.TypeIs (.ref e) "enumerate":=⟨_,hE,rfl⟩
 unfold pyNext
 refine jX (wpAny_attempt (wpAny_callSpecial?_slot (name:=Str.ofString "__next__") hTy F.slot_enumerate_next (wpAny_call_entry F.slot_enumerate_next hTy F.entry_enumerate_next ?_ (F.args_enumerate_next_1 _))))
 obtain⟨hp,g,d,tk,os⟩:=s
 show wpAny _ _ (field (.ref e) 2 >>= _) _ _ _
 refine jX (wpAny_field hE rfl (x:=.ref it) rfl ?_)
 refine jX (dr.item _ _ ⟨hp,g,d,tk,os⟩ i xs x _ hI hl hx fun g1 hI1 e1=>?_)
 replace e1:Heap.SameBut it hp g1:=e1
 have hE1:IsEnum g1 e it i old:=(e1.2 e hne).trans hE
 show wpAny _ _ (field (.ref e) 3 >>= _) _ _ ⟨g1,g,d,tk,os⟩
 refine jX (wpAny_field hE1 rfl (x:=rawInt i) rfl ?_)
 show wpAny _ _ (field (.ref e) 4 >>= _) _ _ ⟨g1,g,d,tk,os⟩
 refine jX (wpAny_field hE1 rfl (x:=.none) rfl ?_)
 show wpAny _ _ (mkInt i >>= _) _ _ ⟨g1,g,d,tk,os⟩
 refine jX (wpAny_mkInt ?_)
 show wpAny _ _ (setField (.ref e) 3 (rawInt ((i:Int)+1)) >>= _) _ _ ⟨g1,g,d,tk+1,os⟩
 refine jX (wpAny_setField_rec hE1 (by simp) fun g2 hE2 e2=>?_)
 replace e2:Heap.SameBut e g1 g2:=e2
 replace hE2:IsEnum g2 e it ((i:Int)+1) old:=hE2
 show wpAny _ _ (setField (.ref e) 4 .none >>= _) _ _ ⟨g2,g,d,tk+1,os⟩
 refine jX (wpAny_setField_rec hE2 (by simp) fun g3 hE3 e3=>?_)
 replace e3:Heap.SameBut e g2 g3:=e3
 replace hE3:IsEnum g3 e it ((i:Int)+1) old:=hE3
 show wpAny _ _ (newTuple [.int i tk,x] >>= _) _ _ ⟨g3,g,d,tk+1,os⟩
 refine jX (wpAny_newTuple ?_)
 have hE4:IsEnum (g3.push { cls:=.type "tuple",data:=.seq #[.int i tk,x] }) e it ((i:Int)+1) old:=jK _ hE3
 generalize hg4:g3.push { cls:=.type "tuple",data:=.seq #[.int i tk,x] }=g4 at hE4
 have hsz:g3.objs.size=hp.objs.size:=by rw[e3.1,e2.1,e1.1]
 have hel:e<hp.objs.size:=yY hE
 have hT4:g4.get? hp.objs.size=some { cls:=.type "tuple",data:=.seq #[.int i tk,x] }:=by rw[<-hg4,<-hsz];exact yJ _ rfl
 have hk4:∀b o,b≠e->b≠it->hp.get? b=some o->g4.get? b=some o:=fun b o hbe hbi hb=>by
  rw[<-hg4];exact jK _ (e3.extBut b o hbe (e2.extBut b o hbe (e1.extBut b o hbi hb)))
 have hI4:st (i+1) g4:=dr.keep _ _ _ hI1 fun q z=>by rw[<-hg4];exact jK _ (e3.extBut _ _ hne.symm (e2.extBut _ _ hne.symm z))
 show wpAny _ _ (Builtin.SmallTypes.ownedTupleIsFree (.ref e) >>= _) _ _ ⟨g4,g,d,tk+1,os⟩
 rw[hsz]
 clear hg4 hE3 e3 hE2 e2 hE1 e1 hI1 hsz
 refine jX ?_
 unfold Builtin.SmallTypes.ownedTupleIsFree
 refine jX (wpAny_field hE4 rfl (x:=.none) rfl (zX ?_))
 simp only[if_true]
 refine jX (wpAny_rule (jX (wpAny_field hE4 rfl (x:=old) rfl (jX (wpAny_setField_rec hE4 (by simp) fun g5 hE5 e5=>?_)))))
 replace e5:Heap.SameBut e g4 g5:=e5
 replace hE5:IsEnum g5 e it ((i:Int)+1) x:=hE5
 show wpAny _ _ (Builtin.SmallTypes.ownedTupleHandOut (.ref e) (.ref hp.objs.size) >>= _) _ _ ⟨g5,g,d,tk+1,os⟩
 refine jX ?_
 unfold Builtin.SmallTypes.ownedTupleHandOut
 refine jX (wpAny_setField_rec hE5 (by simp) fun g6 hE6 e6=>?_)
 replace e6:Heap.SameBut e g5 g6:=e6
 replace hE6:IsEnumOut g6 e it ((i:Int)+1) x hp.objs.size:=hE6
 refine wpAny_setField_rec hE6 (by simp) fun g7 hE7 e7=>?_
 replace e7:Heap.SameBut e g6 g7:=e7
 replace hE7:IsEnumOut g7 e it ((i:Int)+1) x hp.objs.size:=hE7
 have up:∀b o,b≠e->g4.get? b=some o->g7.get? b=some o:=fun b o hb z=>e7.extBut b o hb (e6.extBut b o hb (e5.extBut b o hb z))
 refine jX (wpAny_letGo (zX ⟨_,rfl,zX (hQ g7 hE7 ?_ ?_ ?_)⟩))
 .exact dr.keep _ _ _ hI4 fun q z=>up _ _ hne.symm z
 .exact up _ _ (Nat.ne_of_gt hel) hT4
 .exact fun b o hbe hbi hb=>up b o hbe (hk4 b o hbe hbi hb)
theorem Qdv{Q:Option Value->Shared->Prop}(hh:A.handled=none)(dr:Drw P w it l st src)(hE:IsEnum s.heap e it i old)(hI:st i s.heap)(hl:src xs s.heap)(hx:xs[i]?=none)
  (hQ:∀h',Heap.ExtBut it s.heap h'->Q none { s with heap:=h' }):wpAny (model P w) A (pyNext (.ref e)) Q E s:=by
 have hTy:s.TypeIs (.ref e) "enumerate":=⟨_,hE,rfl⟩
 unfold pyNext
 refine jX (wpAny_attempt (wpAny_callSpecial?_slot (name:=Str.ofString "__next__") hTy F.slot_enumerate_next (wpAny_call_entry F.slot_enumerate_next hTy F.entry_enumerate_next ?_ (F.args_enumerate_next_1 _))))
 show wpAny _ _ (field (.ref e) 2 >>= _) _ _ _
 refine jX (wpAny_field hE rfl (x:=.ref it) rfl ?_)
 refine jX (dr.done _ _ s i xs _ hh hI hl hx fun h' x eb hx'=>?_)
 obtain⟨o,ho,hc⟩:=hx'
 refine jX (wpAny_isInstance (T:="StopIteration") (b:=true) ⟨o,ho,hc⟩ isSubtype_stop (zX (hQ _ eb)))
end
theorem Qhh{n:String}{l:Addr}{p:Heap->Prop}(I:Itr0 n l p) :
  Meets (Builtin.«enumerate.__new__» ⟨[.type "enumerate",.ref l],[]⟩) (fun _ R s=>p s.heap/\R (.ok (.ret (.ref (s.heap.push (Kh n l)).objs.size))) { s with heap:=(s.heap.push (Kh n l)).push { cls:=.type "enumerate",data:=.fields #[.none,.bool false,.ref s.heap.objs.size,rawInt 0,.none,.none] } }) :=
 .of_wp fun prog w A R s h=>by
  obtain⟨hp,g,d,tk,os⟩:=s
  obtain⟨q,h⟩:=h
  have hsub:=sub_enumerate
  have f1:=fun(A:Around) (E:Value->Shared->Prop) (Q:Value->Shared->Prop)=>I.go prog w A E ⟨hp,g,d,tk,os⟩ Q q
  wp_walk
  refine wpAny_stack_any fun stk=>zX ?_
  split
  .rename_i c _ _ _ _ _
   cases(c == Value.type "enumerate")
   .wp_walk using f1 _ _ _
    exact⟨_,rfl,h⟩
   .wp_walk using f1 _ _ _
    exact⟨_,rfl,h⟩
  .wp_walk using f1 _ _ _
   exact⟨_,rfl,h⟩
def Ite(K:Fg)(m:Bool)(a:Addr):It :=
  ⟨fun i H=>∃xs x,Sq K m H a xs/\xs[i]?=some x,
   fun i H v H'=>∃T x,v=.ref T/\H T=none/\H'=upd H T (.tup [.int (i:Nat),x])/\(∀xs,Sq K m H a xs->xs[i]?=some x),
   fun i H=>∃xs,Sq K m H a xs/\xs.length<=i⟩
def eTn(m:Bool)(e it a:Addr)(i:Nat)(h:Heap):Prop:=(∃old,IsEnum h e it i old)/\itSt m it a i h
theorem Qkd{P:Program}{w:World}{K:Fg}{es:List Expr}{kk:Nat}{tp:Pos}{m:Bool}{e it a:Addr}(hne:e≠it)(hea:a≠e)(hia:a≠it) :
  Turn P w K (.Tuple es kk tp) (Ite K m a) [e,it] e (eTn m e it a) where
 mem:=by simp
 obj:=fun i h st c hc=>by
  obtain⟨⟨old,h1⟩,h2⟩:=st
  simp only[kQ,wV,or_false]at hc
  rcases hc with rfl | rfl
  .exact⟨_,h1,fun v z=>by cases z⟩
  .exact(Yz (P:=P) (w:=w) m c a).obj i h h2
 keep:=fun i h h' st k=>by
  obtain⟨⟨old,h1⟩,h2⟩:=st
  exact⟨⟨old,k e (by simp) _ h1⟩,(Yz (P:=P) (w:=w) m it a).keep i h h' h2 (k it (by simp))⟩
 item:=by
  intro X hP hw hK hc i pins s σ H E I hf st hg
  subst hP hw hK
  obtain⟨xs,x,q1,hx⟩:=hg
  obtain⟨is1,r1,p1,z1⟩:=I.sq q1
  obtain⟨v1,e1,rv1⟩:=r1.get hx
  obtain⟨⟨old,hE⟩,s1⟩:=st
  refine Qca (Yz m it a) hE s1 p1 e1 hne fun h' a1 a2 a3 a4=>⟨_,rfl,?_⟩
  have kk:∀c q,c∉[e,it]->s.heap.get? c=some q->h'.get? c=some q:=fun c q hc e=>by
   simp only[kQ,wV,or_false,not_or]at hc
   exact a4 c q hc.1 hc.2 e
  have I1:Inv X pins σ (upd H s.heap.objs.size (.tup [.int (i:Nat),x])) { s with heap:=h' }:=I.tupNew (ch:=[e,it]) (its:=[.int i s.toks,v1]) (jY _) (.cons ⟨_,rfl⟩ (.cons rv1 .nil)) (by show 2<=sizeLine;decide) a3 hf kk (fun c hc=>by
   simp only[kQ,wV,or_false]at hc
   rcases hc with rfl | rfl
   .exact⟨_,a1⟩
   .obtain⟨q,z,_⟩:=(Yz (P:=X.prog) (w:=X.w) m c a).obj _ _ a2;exact⟨q,z⟩)
  refine wpAny_letOwnedTupleGo_enum (s:={ s with heap:=h',toks:=s.toks+1 }) a1 fun h2 g1 g2=>?_
  obtain⟨f0,f1,f2,f3,f4,f5⟩:=hf e (by simp)
  have lte:e<s.heap.objs.size:=yY hE
  have I2:Inv X pins σ (upd H s.heap.objs.size (.tup [.int (i:Nat),x])) { s with heap:=h2,toks:=s.toks+1 }:=I1.turned (h':=h2) (t':=s.toks+1) (fun c q hc z=>g2.extBut c q hc z) (by rw[Qj (zJ lte)];exact f0) f1 f3 f4 f5
  refine⟨.ref s.heap.objs.size,_,I2,rfl,⟨_,x,rfl,I.hok.fresh (jY _),rfl,fun xs' hq=>by rw[I.sq_inj hq q1];exact hx⟩,⟨⟨_,by exact_mod_cast g1⟩,(Yz (P:=X.prog) (w:=X.w) m it a).keep _ _ _ a2 fun q z=>g2.extBut _ _ hne.symm z⟩,fun c hc=>?_⟩
  have hlt:c≠s.heap.objs.size:=by
   simp only[kQ,wV,or_false]at hc
   rcases hc with rfl | rfl
   .exact zJ lte
   .obtain⟨q,z,_⟩:=(Yz (P:=X.prog) (w:=X.w) m c a).obj _ _ s1;exact zJ (yY z)
  rw[Qj hlt]
  exact(hf c hc).1
 done:=by
  intro X hP hw hK hc i pins s σ H E I hf st hg
  subst hP hw hK
  obtain⟨xs,q1,hx⟩:=hg
  obtain⟨is1,r1,p1,z1⟩:=I.sq q1
  obtain⟨⟨old,hE⟩,s1⟩:=st
  have l1:=r1.length
  obtain⟨f0,f1,f2,f3,f4,f5⟩:=hf it (by simp)
  exact Qdv (I.ok.hd hc) (Yz m it a) hE s1 p1 (jQd.mpr Om) fun h' eb=>⟨rfl,I.turned (t':=s.toks) (fun b o hb z=>eb b o hb z) f0 f1 f3 f4 f5⟩
 self:=fun _ _ _ _ _ st h=>by
  obtain⟨⟨old,h1⟩,_⟩:=st
  exact wpAny_pyIter_enum h1 h
section
variable{X:Cx}
def iEnum(K:Fg)(m:Bool)(ta:TA):TI:=fun σ H R=>ta σ H fun vs H1=>∃a,vs=[.ref a]/\(∃xs,Sq K m H1 a xs)/\R (Ite K m a) H1
theorem Qcb{a:Expr}{ta:TA}{p pos tp:Pos}{es:List Expr}{kk:Nat}(m:Bool)(hg:Gl X "enumerate")(hm:X.mg "enumerate"=none)(ha:PA X [a] ta)(hs:autoParam (starEach [a] X.env=[(false,eval a X.env)]) L2.aRfl._auto_1) :
  PI X (.Tuple es kk tp) (.Call (.Name "enumerate" p) [a] [] pos) (iEnum X.K m ta):=by
 intro pins s σ H R I h
 refine Call_ (Vr I hg hm Qdm (PyProof.Rows.callWith_type1 (thn (ha pos pins s σ H _ I h) fun us s1 hqP=>?_) hs rfl))
 obtain⟨vs,H1,I1,r1,q1⟩:=hqP
 obtain⟨l1,e,⟨xs,q1⟩,q⟩:=q1
 subst e
 obtain⟨u1,rfl,e1⟩:=r1.one
 cases e1
 obtain⟨is1,r1,p1,z1⟩:=I1.sq q1
 refine callType_new F.called_enumerate Dc (F.typeCall_enumerate_1 _) (F.newCall_enumerate_1 _) (fun obj=>F.args_object_init_2 obj _) F.entry_enumerate_new (Qhh (Qeu m l1 is1)) ⟨p1,?_⟩
 have z2:(s1.heap.push (Kh (itN m) l1)).objs.size=s1.heap.objs.size+1:=jJa ..
 have g2:((s1.heap.push (Kh (itN m) l1)).push { cls:=.type "enumerate",data:=.fields #[.none,.bool false,.ref s1.heap.objs.size,rawInt 0,.none,.none] }).get? (s1.heap.push (Kh (itN m) l1)).objs.size=some { cls:=.type "enumerate",data:=.fields #[.none,.bool false,.ref s1.heap.objs.size,rawInt 0,.none,.none] }:=yJ _ rfl
 have g1:((s1.heap.push (Kh (itN m) l1)).push { cls:=.type "enumerate",data:=.fields #[.none,.bool false,.ref s1.heap.objs.size,rawInt 0,.none,.none] }).get? s1.heap.objs.size=some (Kh (itN m) l1):=jK _ (yJ _ rfl)
 rw[z2]at g2
 show _/\_
 rw[z2]
 have kp:∀b o,s1.heap.get? b=some o->((s1.heap.push (Kh (itN m) l1)).push { cls:=.type "enumerate",data:=.fields #[.none,.bool false,.ref s1.heap.objs.size,rawInt 0,.none,.none] }).get? b=some o:=fun b o z=>jK _ (jK _ z)
 generalize (s1.heap.push (Kh (itN m) l1)).push { cls:=.type "enumerate",data:=.fields #[.none,.bool false,.ref s1.heap.objs.size,rawInt 0,.none,.none] }=h' at g1 g2 kp
 have I2:Inv X pins σ H1 { s1 with heap:=h' }:=I1.kept (t':=s1.toks) kp
 have ltl:l1<s1.heap.objs.size:=Qbq p1
 refine⟨⟨_,g2,rfl⟩,wpAny_pyIter_enum (s:={ s1 with heap:=h' }) g2 ⟨_,[s1.heap.objs.size+1,s1.heap.objs.size],_,_,H1,rfl,I2,Qkd (m:=m) (a:=l1) (Nat.succ_ne_self _) (zJ (jKc ltl)) (zJ ltl),⟨⟨_,g2⟩,Qbp m g1⟩,fun c hc=>?_,q⟩⟩
 have hle:s1.heap.objs.size<=c:=by
  simp only[kQ,wV,or_false]at hc
  rcases hc with rfl | rfl
  .exact kYd _ _
  .exact jY _
 exact I1.fpOk hle (I1.hok.fresh hle)
end
theorem Qcc{K:Fg}{m:Bool}{a:Addr}{xs:List V}{g:TG}{tb:TS}{D:Ends}{σ:St}{H:Hp}(Pv:Nat->St->Hp->Prop)(h0:Pv 0 σ H)(hl:∀i σ H,i<=xs.length->Pv i σ H->Sq K m H a xs)
  (hs:∀i x σ H T,xs[i]?=some x->Pv i σ H->H T=none->g (.ref T) σ (upd H T (.tup [.int (i:Nat),x])) fun σ2 H2=>tb { D with nx:=Pv (i+1),ct:=Pv (i+1),bk:=D.nx } σ2 H2) (hd:∀σ H,Pv xs.length σ H->D.nx σ H) :
  ∃W:Nat->Nat->St->Hp->Prop,(∃m,W 0 m σ H)/\∀i n σ H,W i n σ H ->
   ((Ite K m a).stop i H/\D.nx σ H)\/((Ite K m a).go i H/\∃N:St->Hp->Prop,(∀σ' H',N σ' H'->∃m',m'<n/\W (i+1) m' σ' H')/\∀x H',(Ite K m a).yld i H x H'->g x σ H' fun σ2 H2=>tb { D with nx:=N,ct:=N,bk:=D.nx } σ2 H2):=by
 refine⟨fun i n σ H=>n=xs.length-i/\i<=xs.length/\Pv i σ H,⟨_,rfl,jQc _,h0⟩,?_⟩
 rintro i n σ H ⟨rfl,hi,p⟩
 have q1:=hl i σ H hi p
 by_cases hlt:i<xs.length
 .refine .inr ⟨⟨xs,xs[i],q1,by simp[hlt]⟩,Pv (i+1),fun σ' H' p'=>⟨xs.length-(i+1),Om,rfl,hlt,p'⟩,fun x H' y=>?_⟩
  obtain⟨T,u,rfl,hT,rfl,y1⟩:=y
  exact hs i u σ H T (y1 xs q1) p hT
 .have e:i=xs.length:=Om
  subst e
  exact .inl ⟨⟨xs,q1,jY _⟩,hd σ H p⟩
def Itr3(lo c:Int)(n:Nat):It:=⟨fun i _=>i<n,fun i H x H'=>H'=H/\x=.int (lo+(i:Nat)*c),fun i _=>n<=i⟩
theorem Qez{P:Program}{w:World}{K:Fg}{tg:Expr}(it:Addr)(lo c:Int)(n:Nat):Turn P w K tg (Itr3 lo c n) [it] it (fun i h=>IsRangeIter h it (lo+(i:Nat)*c) ((n:Int)-(i:Nat)) c) where
 mem:=by simp
 obj:=fun i h st b hb=>by
  have e:b=it:=by simpa using hb
  subst e
  exact⟨_,st,fun v z=>by
   have z':Data.fields _=Data.cell v:=z
   cases z'⟩
 keep:=fun i h h' st k=>k it (by simp) _ st
 item:=by
  intro X hP hw hK hc i pins s σ H E I hf st hg
  subst hP hw hK
  obtain⟨f0,f1,f2,f3,f4,f5⟩:=hf it (by simp)
  have W:=Walks.range (prog:=X.prog) (w:=X.w) (I.ok.hd hc) it lo c n
  refine W.item i s _ _ hg st fun v h' tk hv st' kk=>?_
  obtain⟨t,rfl⟩:=hv
  have I1:Inv X pins σ H { s with heap:=h',toks:=tk }:=I.turned (fun b o hb e=>kk b o (by simpa using hb) e) f0 f1 f3 f4 f5
  exact⟨_,rfl,Qiw (s:={ s with heap:=h',toks:=tk }) (n:="range_iterator") st' rfl rfl Dc ⟨.int (lo+(i:Nat)*c),H,I1,⟨t,rfl⟩,⟨rfl,rfl⟩,st',fun b hb=>(hf b hb).1⟩⟩
 done:=by
  intro X hP hw hK hc i pins s σ H E I hf st hg
  subst hP hw hK
  obtain⟨f0,f1,f2,f3,f4,f5⟩:=hf it (by simp)
  exact wpAny_pyNext_range_end (I.ok.hd hc) st (by have:n<=i:=hg;lia) fun h' eb=>⟨rfl,I.turned (t':=s.toks) (fun b o hb e=>eb b o hb e) f0 f1 f3 f4 f5⟩
 self:=fun _ _ _ _ _ st h=>wpAny_pyIter_rangeiter st h
theorem Wx(a b c:Int)(hc:c≠0):0<=Builtin.Range.rangeSize a b c:=by
 unfold Builtin.Range.rangeSize
 split
 .split
  .have:=Int.ediv_nonneg (a:=b-a-1) (b:=c) Om Om;lia
  .exact jYe 0
 .split
  .have:=Int.ediv_nonneg (a:=a-b-1) (b:=-c) Om Om;lia
  .exact jYe 0
section
variable{X:Cx}{tg:Expr}
def iRng3(ta:TA):TI:=fun σ H R=>ta σ H fun vs H1=>∃i j c:Int,vs=[.int i,.int j,.int c]/\(c≠0/\c.natAbs<1073741824/\Builtin.Range.small i j c=true)/\R (Itr3 i c (Builtin.Range.rangeSize i j c).toNat) H1
theorem Qke{a b c:Expr}{ta:TA}{p pos:Pos}(hg:Gl X "range")(hm:X.mg "range"=none)(ha:PA X [a,b,c] ta)(hs:autoParam (starEach [a,b,c] X.env=[(false,eval a X.env),(false,eval b X.env),(false,eval c X.env)]) L2.aRfl._auto_1)(hs2:autoParam (starEach [b,c] X.env=[(false,eval b X.env),(false,eval c X.env)]) L2.aRfl._auto_1) :
  PI X tg (.Call (.Name "range" p) [a,b,c] [] pos) (iRng3 ta):=by
 intro pins s σ H R I h
 refine Call_ (Vr I hg hm boot_range (PyProof.Rows.callWith_type1 (thn (ha pos pins s σ H _ I h) fun us s1 hqP=>?_) (by rw[hs,hs2]) (by rw[hs2];rfl)))
 obtain⟨vs,H1,I1,r1,q1⟩:=hqP
 obtain⟨i,j,k,e,⟨h1,h2,h3⟩,q⟩:=q1
 subst e
 cases r1 with
 |cons r rr=>
  cases rr with
  |cons r' rr=>
   cases rr with
   |cons r'' rr=>
    cases rr
    obtain⟨t,rfl⟩:=r
    obtain⟨t',rfl⟩:=r'
    obtain⟨t'',rfl⟩:=r''
    refine call_range_3 h1 ?_ (.inl (PyProof.noPylong_small h2))
    refine wpAny_pyIter_range (IsRange.new ..) h3 ?_
    have I2:Inv X pins σ H1 { s1 with heap:=s1.heap.push { cls:=.type "range",data:=.fields #[.int i t,.int j t',.int k t''] },toks:=s1.toks }:=I1.kept fun b o e=>jK _ e
    refine⟨(s1.heap.push { cls:=.type "range",data:=.fields #[.int i t,.int j t',.int k t''] }).objs.size,[(s1.heap.push { cls:=.type "range",data:=.fields #[.int i t,.int j t',.int k t''] }).objs.size],_,_,H1,rfl,
     I2.kept (t':=s1.toks) fun b o e=>jK _ e,Qez _ i k (Builtin.Range.rangeSize i j k).toNat,?_,fun b hb=>?_,q⟩
    .have e1:i+((0:Nat):Int)*k=i:=by simp
     have e2:(((Builtin.Range.rangeSize i j k).toNat:Nat):Int)-((0:Nat):Int)=Builtin.Range.rangeSize i j k:=by have:=Wx i j k h1;lia
     show IsRangeIter _ _ (i+((0:Nat):Int)*k) ((((Builtin.Range.rangeSize i j k).toNat:Nat):Int)-((0:Nat):Int)) k
     rw[e1,e2]
     exact yJ _ rfl
    .have e:b=(s1.heap.push { cls:=.type "range",data:=.fields #[.int i t,.int j t',.int k t''] }).objs.size:=by simpa using hb
     subst e
     exact I2.fpOk (jY _) (I2.hok.fresh (jY _))
end
theorem Qhi{lo c:Int}{n:Nat}{g:TG}{tb:TS}{D:Ends}{σ:St}{H:Hp}(Pv:Nat->St->Hp->Prop)(h0:Pv 0 σ H)
  (hs:∀i σ H,i<n->Pv i σ H->g (.int (lo+(i:Nat)*c)) σ H fun σ2 H2=>tb { D with nx:=Pv (i+1),ct:=Pv (i+1),bk:=D.nx } σ2 H2) (hd:∀σ H,Pv n σ H->D.nx σ H) :
  ∃W:Nat->Nat->St->Hp->Prop,(∃m,W 0 m σ H)/\∀i m σ H,W i m σ H ->
   ((Itr3 lo c n).stop i H/\D.nx σ H)\/((Itr3 lo c n).go i H/\∃N:St->Hp->Prop,(∀σ' H',N σ' H'->∃m',m'<m/\W (i+1) m' σ' H')/\∀x H',(Itr3 lo c n).yld i H x H'->g x σ H' fun σ2 H2=>tb { D with nx:=N,ct:=N,bk:=D.nx } σ2 H2):=by
 refine⟨fun i m σ H=>m=n-i/\i<=n/\Pv i σ H,⟨n,by simp,jQc _,h0⟩,?_⟩
 rintro i m σ H ⟨rfl,hi,p⟩
 by_cases hlt:i<n
 .refine .inr ⟨hlt,Pv (i+1),fun σ' H' p'=>⟨n-(i+1),Om,rfl,hlt,p'⟩,fun x H' y=>?_⟩
  obtain⟨e,y⟩:=y
  subst e y
  exact hs i σ _ hlt p
 .have e:i=n:=Om
  subst e
  exact .inl ⟨jY _,hd σ H p⟩
theorem Qkf{a b c:Int}{i:Nat}(hc:0<c)(h:i<(Builtin.Range.rangeSize a b c).toNat):a+(i:Nat)*c<b:=by
 unfold Builtin.Range.rangeSize at h
 rw[if_pos hc]at h
 split at h
 .have h0:=Int.ediv_nonneg (a:=b-a-1) (b:=c) Om Om
  have h1:(i:Int)<=(b-a-1) / c:=Om
  have h2:=jXd h1 (Int.le_of_lt hc)
  have h3:=Int.ediv_mul_le (b-a-1) (Int.ne_of_gt hc)
  lia
 .simp at h
theorem small3{a b c:Int}(ha:-1000000<=a)(ha':a<=1000000)(hb:-1000000<=b)(hb':b<=1000000)(hc:0<c)(hc':c<=1000000):Builtin.Range.small a b c=true:=by
 have h0:Builtin.Range.rangeSize a b c<=2000001:=by
  unfold Builtin.Range.rangeSize
  rw[if_pos hc]
  split
  .have h3:=Int.ediv_le_self (a:=b-a-1) c Om
   lia
  .decide
 have h1:=Wx a b c (Int.ne_of_gt hc)
 unfold Builtin.Range.small
 simp only[Builtin.Range.rangeFitsLong,jZd,yQa,decide_eq_true_eq,beq_iff_eq,hc,if_true]
 lia
end L2
namespace L2
open PySem PySem.Spec PySem.Calls PyProof.Rows PySem.W
def Big(i:Int):Prop:=i.natAbs<2 ^ 4000
theorem mulOk{i j:Int}(hi:Big i)(hj:Big j):IntMulOk i j:=IntMulOk.of_bits (jQb (intBits_le hi) Dc) (jQb (intBits_le hj) Dc)
section
variable{X:Cx}
theorem Wy:OpR X (binaryOp .Mult) (rI (fun i j=>Big i/\Big j) fun i j=>.int (i*j)):=opI fun _ _ _ _ _ _ _ hc q=>mul_int q (mulOk hc.1 hc.2)
theorem Zs:OpR X (binaryOp .FloorDiv) (rI (fun _ j=>j≠0/\Big j) fun i j=>.int (i.fdiv j)):=opI fun i j _ _ _ _ _ hc q=>floordiv_int hc.1 q (.inl (PyProof.noPylong_of_log2 (xY ((Nat.log2_lt (by have:=hc.1;lia)).mpr hc.2) Dc)))
end
end L2
namespace L2
open PySem PySem.Spec PyProof.Rows PySem.W
theorem Kd{X:Cx}:PGet X (rIxL X.K):=by
 intro pins s σ H o i ov iv Q I ro ri h
 obtain⟨p,xs,k,z,rfl,rfl,hq,he,q⟩:=h
 cases ro
 obtain⟨t,rfl⟩:=ri
 obtain⟨its,r,pl,hz⟩:=I.list hq
 obtain⟨j,h1,h2,h3,h4,h5⟩:=Qeq he
 obtain⟨w,ew,rw'⟩:=r.get h2
 have hl:=r.length
 have hn:=Qcy
 have fin:EP X pins σ Q w s:=⟨z,H,I,rw',q⟩
 by_cases h0:0<=k
 .have hj:k.toNat=j:=by
   rw[seqIndex_of h0 h5]at h1
   exact Option.some.inj h1
  exact wpAny_getItem_list pl.isList h0 Om (by rw[hj];simpa using ew) fin
 .have hj:(k+(its.toArray.size:Int)).toNat=j:=by
   rw[seqIndex_neg Om h4]at h1
   rw[kX,<-hl]
   exact Option.some.inj h1
  exact wpAny_getItem_list_neg pl.isList Om (by rw[kX]<;>lia) Om (by rw[hj];simpa using ew) fin
inductive IsT:String->Prop
 |int:IsT "int"
 |bool:IsT "bool"
 |tuple:IsT "tuple"
 |list:IsT "list"
 |str:IsT "str"
def isiW(K:Fg)(H:Hp):V->String->Bool->Prop
 |.non,_,b=>b=false
 |.int _,T,b=>b=decide (T="int")
 |.bl _,T,b=>b=decide (T="int"\/T="bool")
 |.str _,T,b=>b=decide (T="str")
 |.ref a,T,b=>((∃xs,SqT K H a xs)/\b=decide (T="tuple"))\/((∃xs,SqL K H a xs)/\b=decide (T="list"))
 |_,_,_=>False
theorem Ja{X:Cx}:Zv X (.builtin "isinstance") (fun xs H Q=>∃x T b,xs=[x,.ty T]/\IsT T/\isiW X.K H x T b/\Q (.bl b) H):=by
 intro pins s σ H xs us Q I rv h
 obtain⟨x,T,b,rfl,hT,hi,q⟩:=h
 obtain⟨u,v,rfl,ru,rT⟩:=rv.two
 cases rT
 have fin:∀(tk:Nat),EP X pins σ Q (.bool b) { s with toks:=tk }:=fun tk=>⟨.bl b,H,I.tok tk,rfl,q⟩
 cases x with
 |int n=>
  obtain⟨t,rfl⟩:=ru
  cases hT<;>(subst hi)
  .exact IsiPair.int_int (fin s.toks)
  .exact IsiPair.int_bool (fin _)
  .exact IsiPair.int_tuple (fin _)
  .exact IsiPair.int_list (fin _)
  .exact IsiPair.int_str (fin _)
 |bl n=>
  cases ru
  cases hT<;>(subst hi)
  .exact IsiPair.bool_int (fin s.toks)
  .exact IsiPair.bool_bool (fin s.toks)
  .exact IsiPair.bool_tuple (fin _)
  .exact IsiPair.bool_list (fin _)
  .exact IsiPair.bool_str (fin _)
 |str n=>
  obtain⟨t,rfl⟩:=ru
  cases hT<;>(subst hi)
  .exact IsiPair.str_int (fin _)
  .exact IsiPair.str_bool (fin _)
  .exact IsiPair.str_tuple (fin _)
  .exact IsiPair.str_list (fin _)
  .exact IsiPair.str_str (fin s.toks)
 |non=>
  cases ru
  cases hT<;>(subst hi)
  .exact IsiPair.NoneType_int (fin _)
  .exact IsiPair.NoneType_bool (fin _)
  .exact IsiPair.NoneType_tuple (fin _)
  .exact IsiPair.NoneType_list (fin _)
  .exact IsiPair.NoneType_str (fin _)
 |ref a=>
  cases ru
  rcases hi with⟨⟨xs,hq⟩,hi⟩ | ⟨⟨xs,hq⟩,hi⟩
  .obtain⟨its,r,⟨o,e,c,_⟩,_⟩:=I.tuple hq
   cases hT<;>(subst hi)
   .exact IsiPair.tuple_int e c (fin _)
   .exact IsiPair.tuple_bool e c (fin _)
   .exact IsiPair.tuple_tuple e c (fin s.toks)
   .exact IsiPair.tuple_list e c (fin _)
   .exact IsiPair.tuple_str e c (fin _)
  .obtain⟨its,r,pl,_⟩:=I.list hq
   obtain⟨o,e,c,_⟩:=pl.isList
   cases hT<;>(subst hi)
   .exact IsiPair.list_int e c (fin _)
   .exact IsiPair.list_bool e c (fin _)
   .exact IsiPair.list_tuple e c (fin _)
   .exact IsiPair.list_list e c (fin s.toks)
   .exact IsiPair.list_str e c (fin _)
 |byt _=>exact hi.elim
 |flt _=>exact hi.elim
 |ty _=>exact hi.elim
end L2
namespace L2
open PySem PySem.Spec PySem.Calls PyProof.Rows PySem.W
def rCatG(K:Fg):R2:=fun x y H Q=>∃a b xs ys,x=.ref a/\y=.ref b/\SqT K H a xs/\SqT K H b ys/\ys≠[]/\xs.length+ys.length<=sizeLine/\∀(p:Addr) (H':Hp),Same H H'->SqT K H' p (xs++ys)->Q (.ref p) H'
theorem Qrv{X:Cx}:OpR X (binaryOp .Add) (rCatG X.K):=by
 intro pins s σ H x y v u Q I rx ry h
 obtain⟨a,b,xs,ys,rfl,rfl,ha,hb,hy,hz,q⟩:=h
 by_cases hx:xs=[]
 .subst hx
  cases rx
  cases ry
  obtain⟨its,r1,p1,_⟩:=I.tuple ha
  obtain⟨its2,r2,p2,_⟩:=I.tuple hb
  have e0:its=[]:=r1.nil_iff.mpr rfl
  subst e0
  obtain⟨⟨c1,d1,da1,sl1⟩,ho,hc,n,hd⟩:=id p1
  obtain⟨⟨c2,d2,da2,sl2⟩,ho2,hc2,n2,hd2⟩:=id p2
  simp only at hc hd hc2 hd2
  subst hc hd hc2 hd2
  exact concat_meets ⟨_,ho,rfl⟩ ⟨_,ho2,rfl⟩ noFill_tuple_add seq_tuple_add PySem.F.slot_tuple_add PySem.F.entry_tuple_add (PySem.F.args_tuple_add_2 _ _) (tuple_addW0 a b ([]:List Value).toArray its2.toArray n n2 d1 d2 sl1 sl2 (by simp)) ⟨ho,ho2,⟨.ref b,H,I,rfl,q b H (Same.refl H) hb⟩⟩
 .exact Qjk pins s σ H (.ref a) (.ref b) v u Q I rx ry ⟨a,b,xs,ys,rfl,rfl,ha,hb,hx,hz,fun z=>absurd z hy,fun _ p hp=>q p _ (Qd hp _) (Qy Qc)⟩
end L2
namespace L2
open PySem PySem.W PyProof.Rows
end L2
namespace Nb
open PySem L2
structure Mg(mg:Str->Option Value):Prop where
 len:mg "len"=none
 min:mg "min"=none
 max:mg "max"=none
 sum:mg "sum"=none
 all:mg "all"=none
 any:mg "any"=none
 abs:mg "abs"=none
 isinstance:mg "isinstance"=none
 sorted:mg "sorted"=none
 range_:mg "range"=none
 zip_:mg "zip"=none
 tuple_:mg "tuple"=none
 list_:mg "list"=none
 int_:mg "int"=none
 bool_:mg "bool"=none
 dict_:mg "dict"=none
 enumerate_:mg "enumerate"=none
 reversed_:mg "reversed"=none
 ValueError_:mg "ValueError"=none
 set_:mg "set"=none
 str_:mg "str"=none
theorem atNs{ns:List Int}{k:Int}(h0:0<=k)(h:k<(((ns.map V.int).length:Nat):Int)):∃v:Int,atI (ns.map V.int) k=some (.int v):=by
 have hk:k.toNat<ns.length:=by rw[jQ]at h;lia
 have ek:k=((k.toNat:Nat):Int):=Om
 have q:atI (ns.map V.int) ((k.toNat:Nat):Int)=some (.int ns[k.toNat]):=Zw (by rw[jJ,gE hk]<;>rfl)
 rw[<-ek]at q
 exact⟨_,q⟩
inductive Qdw(K:Fg)(vs:List V)(H:Hp)(Q:VK)(E:XK):Prop|mk(a:Addr)(ns:List Int)(k:Int)(_:vs=[.ref a,.int k])(_:SqL K H a (ns.map V.int))(_:0<=k)(_:∀z:Int,Q (.int z) H):Qdw K vs H Q E
inductive Wz(vs:List V)(H:Hp)(Q:VK)(E:XK):Prop|mk(z:Int)(_:vs=[.int z])(_:Q (.bl true) H):Wz vs H Q E
theorem Yx{K:Fg}{H:Hp}{D a:Addr}{ys zs xs:List V}(hD:H D=some (.lst ys))(h:SqT K H a xs):SqT K (upd H D (.lst zs)) a xs:=by
 rcases h with(h | ⟨o,h⟩) | h
 .exact .inl (.inl (by rw[Qj (Yl h hD (by intro z;cases z))];exact h))
 .exact .inl (.inr ⟨o,by rw[Qj (Yl h hD (by intro z;cases z))];exact h⟩)
 .exact .inr h
def RowAt(K:Fg)(H:Hp)(t:Addr)(r:List Int×Int):Prop:=∃p,SqT K H t [.ref p,.int r.2]/\SqT K H p (r.1.map V.int)
theorem RowAt.same{K:Fg}{H H':Hp}{t:Addr}{r:List Int×Int}(e:Same H H')(h:RowAt K H t r):RowAt K H' t r:=by obtain⟨p,h1,h2⟩:=h;exact⟨p,e.tup h1,e.tup h2⟩
theorem RowAt.upd{K:Fg}{H:Hp}{D t:Addr}{ys zs:List V}{r:List Int×Int}(hD:H D=some (.lst ys))(h:RowAt K H t r):RowAt K (upd H D (.lst zs)) t r:=by obtain⟨p,h1,h2⟩:=h;exact⟨p,Yx hD h1,Yx hD h2⟩
def RowsAre(K:Fg)(H:Hp):List V->List (List Int×Int)->Prop:=Paired fun v r=>∃t,v=.ref t/\RowAt K H t r
theorem RowsAre.imp{K:Fg}{H H':Hp}{vs:List V}{rs:List (List Int×Int)}(f:∀t r,RowAt K H t r->RowAt K H' t r)(h:RowsAre K H vs rs):RowsAre K H' vs rs:=by
 induction h with
 |nil=>exact .nil
 |cons r t ih=>obtain⟨a,e,z⟩:=r;exact .cons ⟨a,e,f _ _ z⟩ ih
theorem RowsAre.snoc{K:Fg}{H:Hp}{vs:List V}{rs:List (List Int×Int)}{t:Addr}{r:List Int×Int}(h:RowsAre K H vs rs)(z:RowAt K H t r):RowsAre K H (vs++[.ref t]) (rs++[r]):=by
 induction h with
 |nil=>exact .cons ⟨t,rfl,z⟩ .nil
 |cons q t ih=>exact .cons q ih
theorem RowsAre.get{K:Fg}{H:Hp}{vs:List V}{rs:List (List Int×Int)}(h:RowsAre K H vs rs):∀{i:Nat} {v:V},vs[i]?=some v->∃t r,v=.ref t/\rs[i]?=some r/\RowAt K H t r:=by
 induction h with
 |nil=>intro i v e;simp at e
 |cons q t ih=>
  intro i v e
  cases i with
  |zero=>obtain⟨a,e1,z⟩:=q;simp at e;subst e;exact⟨a,_,e1,rfl,z⟩
  |succ i=>obtain⟨a,r,e1,e2,z⟩:=ih (i:=i) (v:=v) (by simpa using e);exact⟨a,r,e1,by simpa using e2,z⟩
theorem RowsAre.length{K:Fg}{H:Hp}{vs:List V}{rs:List (List Int×Int)}(h:RowsAre K H vs rs):vs.length=rs.length:=Paired.length h
def ProbAt(K:Fg)(H:Hp)(t:Addr)(rs:List (List Int×Int))(cs:List Int):Prop:=∃l c vs,SqT K H t [.ref l,.ref c]/\SqL K H l vs/\RowsAre K H vs rs/\SqT K H c (cs.map V.int)
theorem ProbAt.same{K:Fg}{H H':Hp}{t:Addr}{rs:List (List Int×Int)}{cs:List Int}(e:Same H H')(h:ProbAt K H t rs cs):ProbAt K H' t rs cs:=by
 obtain⟨l,c,vs,h1,h2,h3,h4⟩:=h;exact⟨l,c,vs,e.tup h1,e.seq h2,h3.imp fun _ _ z=>z.same e,e.tup h4⟩
theorem at0{x y:V}:atI [x,y] 0=some x:=by rfl
theorem at1{x y:V}:atI [x,y] 1=some y:=by rfl
theorem Qcd{α:Type}{l:List α}{i:Nat}{x:α}(h:l[i]?=some x):l.take (i+1)=l.take i++[x]:=by rw[kJb,h];rfl
theorem Qaa{ns:List Int}{i:Nat}{v:V}(h:(ns.map V.int)[i]?=some v):∃n,ns[i]?=some n/\v=.int n:=by
 rw[jJ]at h
 cases e:ns[i]? with
 |none=>rw[e]at h;cases h
 |some n=>rw[e]at h;exact⟨n,rfl,(Option.some.inj h).symm⟩
def rowD(r:List Int×Int):D:=.tup [.tup (r.1.map .int),.int r.2]
def Qkg(rs:List (List Int×Int))(cs:List Int):D:=.tup [.lst (rs.map rowD),.tup (cs.map .int)]
theorem intsD{K:Fg}{H:Hp}{a:Addr}{ns:List Int}(h:SqT K H a (ns.map V.int)):HasD K H (.ref a) (.tup (ns.map .int)):=by
 refine .tup h (by rw[jQ,jQ]) fun i v x e1 e2=>?_
 obtain⟨n,en,rfl⟩:=Qaa e1
 rw[jJ,en]at e2
 cases e2
 exact .int n
theorem pairD{K:Fg}{H:Hp}{a:Addr}{v w:V}{d e:D}(h:SqT K H a [v,w])(h1:HasD K H v d)(h2:HasD K H w e):HasD K H (.ref a) (.tup [d,e]):=by
 refine .tup h rfl fun i v x e1 e2=>?_
 match i with
 |0=>simp at e1 e2;subst e1 e2;exact h1
 |1=>simp at e1 e2;subst e1 e2;exact h2
 |i+2=>simp at e1
theorem RowAt.hasD{K:Fg}{H:Hp}{t:Addr}{r:List Int×Int}(h:RowAt K H t r):HasD K H (.ref t) (rowD r):=by
 obtain⟨p,h1,h2⟩:=h
 exact pairD h1 (intsD h2) (.int _)
theorem RowsAre.hasD{K:Fg}{H:Hp}{l:Addr}{vs:List V}{rs:List (List Int×Int)}(hl:SqL K H l vs)(h:RowsAre K H vs rs):HasD K H (.ref l) (.lst (rs.map rowD)):=by
 refine .lst hl (by rw[jQ];exact h.length) fun i v x e1 e2=>?_
 obtain⟨t,r,rfl,er,hr⟩:=h.get e1
 rw[jJ,er]at e2
 cases e2
 exact hr.hasD
theorem ProbAt.hasD{K:Fg}{H:Hp}{t:Addr}{rs:List (List Int×Int)}{cs:List Int}(h:ProbAt K H t rs cs):HasD K H (.ref t) (Qkg rs cs):=by
 obtain⟨l,c,vs,h1,h2,h3,h4⟩:=h
 exact pairD h1 (RowsAre.hasD h2 h3) (intsD h4)
theorem Qab{n:Nat}(ns ms:List Int):Alike (n+1) (.tup (ns.map .int)) (.tup (ms.map .int)):=by
 refine .tup fun i x y e1 e2=>?_
 rw[jJ]at e1 e2
 obtain⟨a,_,rfl⟩:=xV.mp e1
 obtain⟨b,_,rfl⟩:=xV.mp e2
 exact .int a b
theorem Va{n:Nat}{a b c d:D}(h1:Alike n a c)(h2:Alike n b d):Alike (n+1) (.tup [a,b]) (.tup [c,d]):=by
 refine .tup fun i x y e1 e2=>?_
 match i with
 |0=>simp at e1 e2;subst e1 e2;exact h1
 |1=>simp at e1 e2;subst e1 e2;exact h2
 |i+2=>simp at e1
theorem Qnn{n:Nat}(r r':List Int×Int):Alike (n+2) (rowD r) (rowD r'):=Va (Qab _ _) (.int _ _)
theorem Qkh{n:Nat}(rs rs':List (List Int×Int)):Alike (n+3) (.lst (rs.map rowD)) (.lst (rs'.map rowD)):=by
 refine .lst fun i x y e1 e2=>?_
 rw[jJ]at e1 e2
 obtain⟨a,_,rfl⟩:=xV.mp e1
 obtain⟨b,_,rfl⟩:=xV.mp e2
 exact Qnn a b
theorem Qac{n:Nat}(rs rs':List (List Int×Int))(cs cs':List Int):Alike (n+4) (Qkg rs cs) (Qkg rs' cs'):=Va (Qkh rs rs') (Qab _ _)
theorem ixNat{n k:Nat}(h:k<n):ixN n (k:Int)=some k:=by
 unfold ixN
 rw[if_pos Om,if_pos Om]
 simp
inductive Qno(K:Fg)(vs:List V)(H:Hp)(Q:VK)(E:XK):Prop|mk(a:Addr)(ns:List Int)(_:vs=[.ref a])(_:SqL K H a (ns.map V.int))(_:ns.length<=63)(_:∀H',Q (.bl true) H'):Qno K vs H Q E
end Nb
namespace L2
open PySem PySem.Spec PySem.W PyProof.Rows
open PySem.SeqAt
theorem Paired.getR{α β:Type}{R:α->β->Prop}{xs:List α}{ys:List β}(h:Paired R xs ys):∀{i:Nat} {x:α},xs[i]?=some x->∃y,ys[i]?=some y/\R x y:=by
 induction h with
 |nil=>intro i x e;simp at e
 |cons r t ih=>
  intro i x e
  cases i with
  |zero=>simp at e;subst e;exact⟨_,rfl,r⟩
  |succ i=>obtain⟨y,e1,e2⟩:=ih (i:=i) (by simpa using e);exact⟨y,by simpa using e1,e2⟩
end L2
namespace L2
open PySem PySem.Spec PyProof.Rows PySem.W
section
variable{X:Cx}
theorem Qfa(hc:X.calm=true):Zv X (.type "set") (fun xs H Q=>∃(l:Addr) (ns:List Int),xs=[.ref l]/\SqL X.K H l (ns.map V.int)/\ns.length<4000/\∀(d:Addr) (S:Int->Bool),H d=none->Q (.ref d) (upd H d (.set S (ns.foldl step_dedup []).length))):=by
 intro pins s σ H xs us Q I rv h
 obtain⟨l,ns,rfl,hl,hz,q⟩:=h
 obtain⟨u,rfl,ru⟩:=rv.one
 cases ru
 obtain⟨its,r,pl,_⟩:=I.list hl
 have lr:=r.length
 rw[jQ]at lr
 have e1:(List.range its.toArray.size).map (fun i=>ns.getD i 0)=ns:=by
  rw[kX,<-lr]
  apply kJd
  intro i
  by_cases hi:i<ns.length
  .rw[jJ,jXa hi,gE hi]
   show some (ns.getD i 0)=_
   rw[jZ,gE hi];rfl
  .rw[jQd.mpr (by rw[jQ,jV];lia),jQd.mpr Om]
 refine call_set_list (I.ok.hd hc) pl.isList (ns:=ns) (by simpa using intsAre_of r) (by rw[kX];show its.length+1<4096;lia) fun h' tk hS hk=>?_
 have e2:(firstMet (fun i=>ns.getD i 0) its.toArray.size).length=(ns.foldl step_dedup []).length:=by unfold firstMet;rw[e1]
 refine⟨.ref _,_,I.laid (o:=.set (fun k'=>(firstMet (fun i=>ns.getD i 0) its.toArray.size).any (· == k')) (ns.foldl step_dedup []).length) (fun b o e=>hk b o (yY e) e) (jY _) ?_,rfl,q _ _ (I.hok.fresh (jY _))⟩
 rw[<-e2]
 exact hS
theorem Qce:Zv X (.builtin "len") (fun xs H Q=>∃(d:Addr) (S:Int->Bool) (n:Nat),xs=[.ref d]/\H d=some (.set S n)/\Q (.int (n:Nat)) H):=by
 intro pins s σ H xs us Q I rv h
 obtain⟨d,S,n,rfl,hd,q⟩:=h
 obtain⟨u,rfl,ru⟩:=rv.one
 cases ru
 obtain⟨o,es,ep,t,ho,hex,hdt,_,_,hb,hf,hn⟩:=I.hok d _ hd
 subst hn
 refine call_len_set ho hex hdt hf ?_ ⟨.int _,H,I.tok _,⟨_,rfl⟩,q⟩
 have:es.size<4096:=hb
 lia
theorem Qdx:∀{ns:List Int} {us:List Value},IntsAre us ns->Vals (ns.map V.int) us:=by
 intro ns us h
 induction h with
 |nil=>exact .nil
 |cons=>rename_i ih;exact .cons ⟨_,rfl⟩ ih
end
theorem bt_set:bootBuiltins "set"=some (.type "set"):=Dk
theorem Qki(ns:List Int):(ns.foldl step_dedup []).length=ns.length↔ns.Nodup:=by
 have key:∀(l acc:List Int),(l.foldl step_dedup acc).length<=acc.length+l.length/\((l.foldl step_dedup acc).length=acc.length+l.length↔l.Nodup/\∀x∈l,x∉acc):=by
  intro l
  induction l with
  |nil=>intro acc;exact⟨jY _,by simp⟩
  |cons a t ih=>
   intro acc
   rw[kQb]
   by_cases h:a∈acc
   .have e:step_dedup acc a=acc:=by
     unfold step_dedup
     rw[if_pos (by simpa using h)]
    rw[e]
    obtain⟨h1,h2⟩:=ih acc
    refine⟨by rw[xQ];lia,⟨fun z=>by rw[xQ]at z;lia,fun z=>absurd h (z.2 a yV)⟩⟩
   .have e:step_dedup acc a=acc++[a]:=by
     unfold step_dedup
     rw[if_neg (by simpa using h)]
    rw[e]
    obtain⟨h1,h2⟩:=ih (acc++[a])
    rw[kZ,List.length_singleton]at h1 h2
    refine⟨by rw[xQ];lia,?_⟩
    rw[xQ,show acc.length+(t.length+1)=acc.length+1+t.length by lia,h2,kJ]
    constructor
    .rintro⟨n1,n2⟩
     refine⟨⟨fun ha=>n2 a ha (by simp),n1⟩,fun x hx=>?_⟩
     rcases kQ.mp hx with rfl | hx
     .exact h
     .exact fun z=>n2 x hx (kZa _ z)
    .rintro⟨⟨n0,n1⟩,n2⟩
     refine⟨n1,fun x hx z=>?_⟩
     rcases zY.mp z with z | z
     .exact n2 x (yZ _ hx) z
     .have:x=a:=by simpa using z
      exact n0 (this▸hx)
 have:=(key ns []).2
 simpa using this
end L2
namespace L2
open PySem PySem.Spec PyProof.Rows PySem.SeqAt
theorem Qhj{α β:Type}{R:α->β->Prop}{xs:List α}{ys:List β}(h:Paired R xs ys):∀{i:Nat} {x:α},xs[i]?=some x->∃y,ys[i]?=some y/\R x y:=by
 induction h with
 |nil=>intro i x e;exact nomatch e
 |cons z _ ih=>
  intro i x e
  match i with
  |0=>cases e;exact⟨_,rfl,z⟩
  |i+1=>exact ih (show _=some x from e)
section
theorem Qrw{kvs:List (Key×V)}{vs:List (Key×Value)}(h:KV kvs vs):kvs.map (·.1)=vs.map (·.1):=by
 induction h with
 |nil=>rfl
 |cons h _ ih=>rw[yX,yX,ih,h.1]
open PySem.MeetsSeq PySem.MeetsSeq2 PySem.MeetsSeq3 in
open AutoSeq1 (wpAny_loadPart') in
open PySem.MeetsSeq PySem.MeetsSeq2 PySem.MeetsSeq3 in
open AutoSeq1 (wpAny_loadPart') in
end
theorem Qrx{P:Program}{w:World}{k:Key}{u:Value}(h:(Xq P w).is k u=true):RelV (kV k) u:=by
 rw[Qgx]at h
 rcases Yc h with⟨i,t,rfl,rfl⟩ | ⟨x,t,rfl,rfl⟩
 .exact⟨t,rfl⟩
 .exact⟨t,rfl⟩
section
variable{X:Cx}{pins:List (Addr×Obj)}{σ:St}{H:Hp}{s:Shared}{d:Addr}{kvs:List (Key×V)}{o:Obj}
def NF(X:Cx)(d:Addr):Prop:=∀o u,X.H₀ d≠some (.frz o u)
theorem Inv.nf(I:Inv X pins σ H s)(e:H d=some (.dK kvs)):NF X d:=fun o u z=>by
 have:=I.base.frzs d o u z
 rw[e]at this
 cases this
theorem Inv.freeze(I:Inv X pins σ H s)(e:H d=some (.dK kvs)):∃o,s.heap.get? d=some o/\Inv X pins σ (upd H d (.frz o (.dK kvs))) s:=by
 obtain⟨z,hd,vs,rel,dd⟩:=Qbx I.hok e
 obtain⟨o,es,ep,h1,h2⟩:=id dd
 exact⟨o,h1,Ww (t':=s.toks) I (by rw[e];exact True.intro) (Heap.SameBut.refl _ _) ⟨o,h1⟩ ⟨h1,z,hd,vs,rel,dd⟩⟩
theorem Inv.thaw(I:Inv X pins σ H s)(nf:NF X d)(e:H d=some (.frz o (.dK kvs))):Inv X pins σ (upd H d (.dK kvs)) s:=by
 have ne:∀b,H b=none->b≠d:=fun b n z=>by rw[z,e]at n;cases n
 have ok:ObjOk X.prog X.w H s.heap d (.frz o (.dK kvs)):=I.hok d _ e
 obtain⟨_,z,hd,vs,rel,dd⟩:=ok
 refine⟨I.ok,I.os,I.bare,⟨I.base.keep,I.base.slot,fun b q e1 n hx=>?_,I.base.there,fun b xs q=>?_,fun b o' u q=>?_,fun b ps q=>?_⟩,I.loc,I.cell,?_,fun x c q=>?_,fun p hp=>?_,fun b u q=>?_,I.len⟩
 .have n1:=I.base.free b q e1 n hx
  rw[Qj (ne b n1)];exact n1
 .have q1:=I.base.tups b xs q
  rw[Qj (Yl q1 e (by intro z;cases z))];exact q1
 .have q1:=I.base.frzs b o' u q
  rw[Qj (fun z=>by subst z;exact nf _ _ q)];exact q1
 .obtain⟨m,q1⟩:=I.base.tbls b ps q
  exact⟨m,by rw[Qj (Yl q1 e (by intro z;cases z))];exact q1⟩
 .rw[Qj (ne _ I.free)];exact I.free
 .have n1:=I.freeC x c q
  rw[Qj (ne _ n1)];exact n1
 .obtain⟨a1,a2,a3⟩:=I.pin p hp
  exact⟨a1,by rw[Qj (ne _ a2)];exact a2,a3⟩
 .by_cases hb:b=d
  .subst hb
   rw[Qc]at q
   cases q
   exact⟨z,hd,vs,rel,dd⟩
  .rw[Qj hb]at q
   exact(I.hok b u q).stay (fun _ _ _ r=>r) (fun c r=>by rw[Qj (Yl r e (by intro z;cases z))];exact r) fun c xs r=>by rw[Qj (Yl r e (by intro z;cases z))];exact r
end
theorem Qkj{P:Program}{w:World}{H:Hp}{h:Heap}{d:Addr}{o:Obj}{kvs:List (Key×V)}{es:Array DictEntry}{ep:Nat}(ok:HOk P w H h)(e:H d=some (.frz o (.dK kvs)))(hd:o.data=.dict es ep):∃vs,KV kvs vs/\h.DictAt (Xq P w) d vs ep:=by
 obtain⟨h0,z,hn,vs,rel,ob,es',ep',h1,h2,h3,h4⟩:=(show ObjOk P w H h d (.frz o (.dK kvs))from ok d _ e)
 rw[h0]at h1
 cases h1
 rw[hd]at h3
 cases h3
 exact⟨vs,rel,o,es,h0,h2,hd,h4⟩
section
variable{X:Cx}
def Thw(F:Addr->Prop)(D:Ends):Ends where
 nx:=fun σ H=>∃d o kvs,F d/\H d=some (.frz o (.dK kvs))/\D.nx σ (upd H d (.dK kvs))
 rt:=fun v H=>∃d o kvs,F d/\H d=some (.frz o (.dK kvs))/\D.rt v (upd H d (.dK kvs))
 bk:=fun σ H=>∃d o kvs,F d/\H d=some (.frz o (.dK kvs))/\D.bk σ (upd H d (.dK kvs))
 ct:=fun σ H=>∃d o kvs,F d/\H d=some (.frz o (.dK kvs))/\D.ct σ (upd H d (.dK kvs))
def tThw(F:Addr->Prop)(t:TS):TS:=fun D σ H=>t (Thw F D) σ H
theorem Qkk{st:Stmt}{t:TS}(h:PS X st t):PS X st (tThw (NF X) t):=by
 intro pins s σ H D I q
 refine thn (h pins s σ H _ I q) fun f s' p=>?_
 cases f with
 |next=>obtain⟨σ',H',I',d,o,kvs,nf,e,r⟩:=p;exact⟨σ',_,I'.thaw nf e,r⟩
 |brk=>obtain⟨σ',H',I',d,o,kvs,nf,e,r⟩:=p;exact⟨σ',_,I'.thaw nf e,r⟩
 |cont=>obtain⟨σ',H',I',d,o,kvs,nf,e,r⟩:=p;exact⟨σ',_,I'.thaw nf e,r⟩
 |ret u=>obtain⟨v,σ',H',I',rv,d,o,kvs,nf,e,r⟩:=p;exact⟨v,σ',_,I'.thaw nf e,rv,r⟩
end
section
variable{X:Cx}
open PySem.W in
theorem Qfb{K:Fg}{e:Expr}{f:Str}{pos:Pos}{ta:TE}(hK:X.K=K)(he:PE X e ta)(hb:attributeBase e f X.env (eval e X.env)=eval e X.env):PE X (.Attribute e f pos) (tFld K ta f):=by subst hK;exact Qq he hb
end
section
variable{prog:Program}{w:World}{A:Around}{E:Value->Shared->Prop}{s:Shared}{a₀:Array Keyed}
theorem Qhk{st:SortSt}{Q:Option Nat->SortSt->Prop}(h0:IntKeys a₀)(hB:SBase a₀ st)(h2:2<=a₀.size)(hf:∀i,1<=i->i<a₀.size->PyProof.Rows.K (arrOf st) i<PyProof.Rows.K (arrOf st) (i-1))
  (h:∀st',SBase a₀ st'->SortedTo (arrOf st') a₀.size->Q (some a₀.size) st'):wpS (model prog w) A E s (countRun' 0 a₀.size) Q st:=by
 rw[countRun0_eq]
 refine wpS_bind (wpS_ascLoop h0 (jY _) (jY 1) Om hB (fun i j hij hj=>by obtain rfl:i=j:=Om;exact jYe _) fun n hn1 hn2 hsn _=>?_)
 have en:n=1:=by
  by_cases c:n=1
  .exact c
  .have a1:=hsn 0 1 Om Om
   have a2:=hf 1 (jY _) Om
   rw[show 1-1=0 from rfl]at a2
   lia
 subst en
 dsimp only
 rw[if_neg (by rw[beq_iff_eq];lia),if_neg Om]
 unfold descPart
 refine wpS_bind (wpS_lift (wpAny_rule ⟨rfl,?_⟩))
 unfold descLoop
 refine wpS_bind (wpS_forRange (I:=fun x c st'=>st'=st/\c=((none,x,0):DescSt)) ?_ ?_ ⟨rfl,rfl⟩)
 .rintro x c st' hax hxn ⟨rfl,rfl⟩
  dsimp only
  refine wpS_bind (wpS_ltK hB h0 Om Om ?_)
  simp only[hf x Om hxn,decide_true,if_true]
  rw[if_neg Om]
  exact wpS_pure ⟨rfl,rfl⟩
 rintro c st' ⟨rfl,rfl⟩
 rw[show max (1+1) a₀.size=a₀.size by lia]
 dsimp only
 rw[if_neg Om]
 unfold tail3
 refine wpS_bind (wpS_reverse ?_)
 have hB':SBase a₀ (setArr st' (mirror (arrOf st') 0 a₀.size ((a₀.size-0) / 2))):=hB.setArr (mirror_perm _ _ _ _)
 have ni:∀d i,i+d<a₀.size->PyProof.Rows.K (arrOf st') (i+d)<=PyProof.Rows.K (arrOf st') i:=fun d=>by
  induction d with
  |zero=>exact fun i _=>jYe _
  |succ d ih=>
   intro i hi
   have b1:=hf (i+(d+1)) Om hi
   have b2:=ih i Om
   rw[show i+(d+1)-1=i+d by lia]at b1
   lia
 refine wpS_bind (wpS_ascLoop h0 (jY _) Om (jY _) hB' (fun i j hij hj=>?_) fun m hm1 hm2 hsm _=>?_)
 .show PyProof.Rows.K (mirror (arrOf st') 0 a₀.size ((a₀.size-0) / 2)) i<=PyProof.Rows.K (mirror (arrOf st') 0 a₀.size ((a₀.size-0) / 2)) j
  rw[K_mirror (by rw[hB.size];exact jY _),K_mirror (by rw[hB.size];exact jY _),if_pos Om,if_pos Om]
  have:=ni (j-i) (0+a₀.size-1-j) Om
  rwa [show 0+a₀.size-1-j+(j-i)=0+a₀.size-1-i by lia]at this
 .obtain rfl:m=a₀.size:=Om
  exact wpS_pure (h _ hB' hsm)
theorem Qkl:∀(f n r:Nat),r<=1->1<=f->n<=f->minRun' f n r<=n+r:=fun f=>by
 induction f with
 |zero=>intro n r _ h;exact absurd h Dc
 |succ f ih=>
  intro n r hr _ hn
  rw[minRun'_succ]
  by_cases c:n<64
  .rw[if_pos c];exact jY _
  .rw[if_neg c]
   have:=ih (n / 2) (max r (n % 2)) Om Om Om
   lia
theorem Qcf{st:SortSt}{Q:Unit->SortSt->Prop}(h0:IntKeys a₀)(hB:SBase a₀ st)(h2:2<=a₀.size)(hf:∀i,1<=i->i<a₀.size->PyProof.Rows.K (arrOf st) i<PyProof.Rows.K (arrOf st) (i-1))
  (h:∀st',(arrOf st').Perm a₀->failedOf st'=none->SortedTo (arrOf st') a₀.size->Q () st'):wpS (model prog w) A E s sortRuns' Q st:=by
 rw[sortRuns'_eq]
 refine wpS_bind (wpS_get ?_)
 dsimp only
 have hmr:=Qkl a₀.size a₀.size 0 Dc Om (jY _)
 simp only[hB.size]
 refine wpS_bind (wpS_mono (wpS_forRange (I:=fun x c st'=>(x=0/\c=(none,0)/\st'=st)\/(1<=x/\c=(none,a₀.size)/\SDone a₀ st')) (Q:=fun c st'=>c=(none,a₀.size)/\SDone a₀ st') ?step ?fin (.inl ⟨rfl,rfl,rfl⟩)) ?post)
 case fin=>
  rintro c st' (⟨hx,_,_⟩ | ⟨_,hc,hD⟩)
  .omega
  .exact⟨hc,hD⟩
 case step=>
  rintro x c st' _ hx (⟨rfl,rfl,rfl⟩ | ⟨hx1,rfl,hD⟩)
  .dsimp only
   rw[if_neg Om]
   simp only[Nat.sub_zero,Nat.zero_add]
   refine wpS_bind (Qhk h0 hB h2 hf fun st2 hB2 hs2=>?_)
   dsimp only
   rw[if_neg Om]
   refine wpS_bind (wpS_get ?_)
   rw[show(pendingOf st2).back?=none by rw[hB2.pend];rfl]
   exact wpS_bind (wpS_modify (wpS_pure (.inr ⟨Om,rfl,hB2.done hs2⟩)))
  .dsimp only
   rw[if_pos (jY _)]
   exact wpS_pure ⟨rfl,hD⟩
 case post=>
  rintro c st' ⟨rfl,hD⟩
  dsimp only
  refine wpS_bind (wpS_mono (wpS_forRange (I:=fun _ c st''=>st''=st'/\c=(none,())) (Q:=fun c st''=>st''=st'/\c=(none,())) ?_ (fun _ _ hh=>hh) ⟨rfl,rfl⟩) ?_)
  .rintro x c st'' _ _ ⟨rfl,rfl⟩
   refine wpS_bind (wpS_get ?_)
   rw[if_pos (by rw[hD.2.2.1];exact jY 1)]
   exact wpS_pure ⟨rfl,rfl⟩
  .rintro c st'' ⟨rfl,rfl⟩
   exact wpS_pure (h _ hD.1 hD.2.1 hD.2.2.2)
theorem Qnp{vs:List Value}{ns:List Int}(hI:IntsAre vs ns)(hp:ns.Pairwise (fun a b=>b<a)){i:Nat}(h1:1<=i)(hi:i<(pairsOf vs).size):PyProof.Rows.K (pairsOf vs) i<PyProof.Rows.K (pairsOf vs) (i-1):=by
 have key:∀j,j<(pairsOf vs).size->∃x,ns[j]?=some x/\PyProof.Rows.K (pairsOf vs) j=x:=fun j hj=>by
  have e:=K_eq hj
  have hj':=hj
  rw[pairsOf_size]at hj'
  refine⟨PyProof.Rows.K (pairsOf vs) j,?_,rfl⟩
  rw[e,<-hI.nums,jJ,gE hj']
  show some (numOf vs[j])=some (numOf (pairsOf vs)[j].1)
  congr 2
  unfold pairsOf
  simp
 obtain⟨x,ex,kx⟩:=key i hi
 obtain⟨y,ey,ky⟩:=key (i-1) Om
 rw[kx,ky]
 obtain⟨l1,e1⟩:=jW.mp ex
 obtain⟨l2,e2⟩:=jW.mp ey
 have:=jKa.mp hp (i-1) i l2 l1 Om
 rw[e1,e2]at this
 exact this
theorem Qhl{a:Addr}{vs:List Value}{ns:List Int}{n:Nat}{P:PySem.Fin->Shared->Prop}(ho:s.heap.get? a=some (seqObj "list" vs.toArray n))
  (hI:IntsAre vs ns) (hh:vs.length<64\/ns.Pairwise (fun a b=>b<a)) (hlen:vs.length<1000000)
  (h:∀(out:Array Value) (ns':List Int),IntsAre out.toList ns'->ns'.Perm ns->ns'.Pairwise (·<=·)->P (.done (.ret .none)) { s with heap:=sortedHeap s.heap a vs out }) :
  wpAny (model prog w) A (Builtin.«list.sort» ⟨[.ref a],[]⟩) P E s:=by
 by_cases h64:vs.length<64
 .exact list_sort_tree ho hI h64 h
 have hp:=hh.resolve_left h64
 rw[list_sort_plain]
 have ha:a<s.heap.objs.size:=yY ho
 refine jX (listItems_at ho rfl ?_)
 refine jX (listUpdate_at ho rfl ?_)
 obtain⟨e1,ho1⟩:∃e1,(s.heap.update a (Obj.mapSeq fun _=>#[])).get? a=some (seqObj "list" #[] e1):=⟨_,get?_update_seq ho (fun _=>#[])⟩
 refine jX (seqEpoch_at ho1 rfl ?_)
 refine jX (wpAny_newTuple ?_)
 refine jX (wpAny_newList ?_)
 refine wpAny_holding ?_
 have ho6:(((s.heap.update a (Obj.mapSeq fun _=>#[])).push (seqObj "tuple" vs.toArray 0)).push (seqObj "list" #[] 0)).get? a=some (seqObj "list" #[] e1):=by
  rw[Heap.get?_push_ne _ _ _ (by rw[size_push',Heap.size_update];exact zJ (jKc ha)),Heap.get?_push_ne _ _ _ (by rw[Heap.size_update];exact zJ ha)]
  exact ho1
 show wpAny (model prog w) A _ P E { s with heap:=((s.heap.update a (Obj.mapSeq fun _=>#[])).push (seqObj "tuple" vs.toArray 0)).push (seqObj "list" #[] 0) }
 dsimp only
 have hsz:vs.toArray.size=vs.length:=by simp
 rw[if_neg Om,if_neg Om]
 obtain⟨v₁,v₂,rest,rfl⟩:∃v₁ v₂ rest,vs=v₁::v₂::rest:=by
  match vs,h64 with
  |[],h2=>simp at h2
  |[_],h2=>simp at h2
  |v₁::v₂::rest,_=>exact⟨v₁,v₂,rest,rfl⟩
 rw[keyKind_ints hI]
 refine jX (zX ?_)
 refine jX (wpAny_mono (Qcf (a₀:=pairsOf (v₁::v₂::rest)) (st:=SortSt.mk' oneType' ((v₁::v₂::rest).toArray.zip (v₁::v₂::rest).toArray) #[] 7 none)
  (Q:=fun _ st'=>(arrOf st').Perm (pairsOf (v₁::v₂::rest))/\failedOf st'=none/\SortedTo (arrOf st') (pairsOf (v₁::v₂::rest)).size) hI.intKeys ⟨Array.Perm.refl _,rfl,rfl,rfl⟩ (by rw[pairsOf_size];lia) (fun i h1 hi=>Qnp hI hp h1 hi) fun st' a1 a2 a3=>⟨a1,a2,a3⟩) ?_ fun _ _ e=>e)
 rintro⟨⟨⟩,st'⟩ s' ⟨rfl,hq,hf,hs⟩
 dsimp only
 refine jX (seqEpoch_at ho6 rfl ?_)
 refine jX (listUpdate_at ho6 rfl ?_ (hsz2:=by refine jQb (Nat.le_of_eq ((Array.size_map ..).trans (hq.size_eq.trans (pairsOf_size _)))) ?_;rw[sizeLine_eq];lia))
 rw[hf]
 simp only[bne_self_eq_false,kJa,if_false]
 obtain⟨ns',b1,b2,b3⟩:=sorted_out hI hq hs
 exact zX (h _ ns' b1 b2 b3)
end
theorem Qay:∀{us:List Value} {ns:List Int},us.length=ns.length->(∀(j:Nat) (u:Value),us[j]?=some u->∃x t,ns[j]?=some x/\u=.int x t)->IntsAre us ns
 |[],[],_,_=>.nil
 |[],_::_,e,_=>nomatch e
 |_::_,[],e,_=>nomatch e
 |u::us,x::ns,e,h=>by
  obtain⟨y,t,e1,rfl⟩:=h 0 u rfl
  obtain rfl:x=y:=Option.some.inj e1
  exact .cons x t (Qay (Nat.succ.inj e) fun j v ev=>h (j+1) v ev)
section
variable{X:Cx}
open PySem.W in
theorem Qcg(hc:X.calm=true):Zv X (.builtin "sorted") (fun xs H Q=>∃(d:Addr) (kvs:List (Key×V)) (ss:List Int),xs=[.ref d]/\H d=some (.dK kvs)/\kvs.map (·.1)=ss.map Sum.inl/\kvs.length<100000/\(ss.length<64\/ss.Pairwise (fun a b=>b<a)) /\
  ∀(D:Addr) (qs:List Int),H D=none->qs.Perm ss->qs.Pairwise (·<=·)->Q (.ref D) (upd H D (.lst (qs.map V.int)))):=by
 intro pins s σ H xs us Q I rv h
 obtain⟨d,kvs,ss,rfl,hd,hk,h64,hh,q⟩:=h
 obtain⟨u,rfl,ru⟩:=rv.one
 cases ru
 obtain⟨z,lo,vs,rel,dd⟩:=Qbx I.hok hd
 obtain⟨o,es,ep,h1,h2,h3,h4⟩:=id dd
 have da:s.heap.DictAt (Xq X.prog X.w) d vs ep:=⟨o,es,h1,h2,h3,h4⟩
 have lr:=rel.length
 have lo':(d == sysModules)=false:=lo
 have hz64:(1000000:Nat)<sizeLine:=Dc
 refine Calls.call_function_entry kind_sorted plain_sorted entry_sorted (args_sorted1 _) ?_
 unfold Builtin.«sorted»
 refine jX (m:=checkCount "sorted" 1 1 _) (zX ?_)
 refine jX (kdu_collect (A:=X.A.in1) (kdl_dict (knd:=Xq X.prog X.w) (kvs:=vs) (ep:=ep) lo') (I.ok.hd hc) da Om fun h' tk acc hkp hacc=>?_)
 have hl:acc.toList.length=vs.length:=by rw[kXb];exact hacc.1
 refine jX (wpAny_newList ?_ (by rw[hl];lia))
 have lk:kvs.length=ss.length:=by
  have:=congrArg List.length hk
  rwa [jQ,jQ]at this
 have hS:IntsAre acc.toList ss:=by
  refine Qay Om fun j u eu=>?_
  obtain⟨k,x,ek,hkx⟩:=hacc.2 j u (by rw[<-Array.getElem?_toList];exact eu)
  have e5:(vs.map (·.1))[j]?=some k:=by rw[jJ,ek];rfl
  rw[<-Qrw rel,hk,jJ]at e5
  cases e6:ss[j]? with
  |none=>rw[e6]at e5;cases e5
  |some y=>
   rw[e6]at e5
   cases e5
   obtain⟨t,rfl⟩:=(show ∃t,u=Value.int y t from Qrx hkx)
   exact⟨y,t,rfl,rfl⟩
 have hoL:(h'.push (seqObj "list" acc.toList.toArray 0)).get? h'.objs.size=some (seqObj "list" acc.toList.toArray 0):=yJ _ rfl
 show wpAny _ _ _ _ _ { s with heap:=h'.push (seqObj "list" acc.toList.toArray 0),toks:=tk }
 refine jX (wpAny_holding (wpAny_call_entry slot_list_sort ⟨_,hoL,rfl⟩ entry_list_sort (Qhl hoL hS (hh.imp_left fun z=>Om) Om fun out ss' b1 b2 b3=>⟨_,rfl,?_⟩) (args_list_sort _)))
 refine zX ⟨_,rfl,?_⟩
 obtain⟨e,he⟩:=sortedHeap_at (h:=h'.push (seqObj "list" acc.toList.toArray 0)) (vs:=acc.toList) (out:=out) hoL
 have l5:ss'.length=ss.length:=b2.length_eq
 have I2:Inv X pins σ H { s with heap:=h',toks:=tk }:=I.kept hkp
 refine⟨.ref h'.objs.size,_,I2.laid (t':=tk) (o:=.lst (ss'.map V.int)) (fun b ob z5=>?_) (jY _) ⟨by rw[jQ];lia,out.toList,e,Qdx b1,by rw[Array.toArray_toList];exact he⟩,rfl,q _ ss' (I2.hok.fresh (jY _)) b2 b3⟩
 have hb:h'.get? b=some ob:=z5
 have lb:=yY hb
 rw[sortedHeap_old (zJ lb) (by rw[size_push'];exact jKc lb),Heap.get?_push_ne _ _ _ (zJ lb)]
 exact hb
end
end L2
namespace L2
open PySem PySem.Spec PySem.Calls PyProof.Rows PySem.W
section
variable{X:Cx}
theorem Qry:MtR X "int.bit_length" (fun x xs H Q=>∃a:Int,x=.int a/\xs=[]/\Q (.int ((Builtin.Int.intBits a:Nat):Int)) H):=by
 intro pins s σ H x xs v us Q I rx rv h
 obtain⟨a,rfl,rfl,q⟩:=h
 obtain⟨t,rfl⟩:=rx
 cases rv
 exact call_gives F.slot_int_bit_length (typeIs_int s a t) F.entry_int_bit_length (F.args_int_bit_length_1 _) (PySem.AutoIntG2.int_bit_length_int_0 a t) ⟨.int _,H,I.tok _,⟨_,rfl⟩,q⟩
theorem Qkm:∀{xs:List V} {us:List Value},us.length=xs.length->(∀(j:Nat) (u:Value),us[j]?=some u->∃x,xs[j]?=some x/\RelV x u)->Vals xs us
 |[],[],_,_=>.nil
 |x::xs,u::us,h,q=>by
  obtain⟨x',e,r⟩:=q 0 u rfl
  cases e
  exact .cons r (Qkm (Nat.succ.inj h) fun j v e=>q (j+1) v e)
 |[],_::_,h,_=>nomatch h
 |_::_,[],h,_=>nomatch h
theorem Qhm(hc:X.calm=true):Zv X (.type "list") (fun xs H Q=>∃(d:Addr) (kvs:List (Key×V)),xs=[.ref d]/\H d=some (.dK kvs)/\∀D,H D=none->Q (.ref D) (upd H D (.lst (kvs.map fun p=>kV p.1)))):=by
 intro pins s σ H xs us Q I rv h
 obtain⟨d,kvs,rfl,hd,q⟩:=h
 obtain⟨u,rfl,ru⟩:=rv.one
 cases ru
 obtain⟨z,lo,vs,rel,dd⟩:=Qbx I.hok hd
 obtain⟨o,es,ep,h1,h2,h3,h4⟩:=id dd
 have da:s.heap.DictAt (Xq X.prog X.w) d vs ep:=⟨o,es,h1,h2,h3,h4⟩
 have lr:=rel.length
 have lo':(d == sysModules)=false:=lo
 refine kdl_call (kdl_dict (knd:=Xq X.prog X.w) (kvs:=vs) (ep:=ep) lo') (I.ok.hd hc) da Om fun h' tk acc c hk hS hacc=>?_
 have hl:acc.toList.length=vs.length:=by rw[kXb];exact hacc.1
 have hV:Vals (kvs.map fun p=>kV p.1) acc.toList:=by
  refine Qkm (by rw[jQ];lia) fun j u eu=>?_
  obtain⟨k,x,ek,hkx⟩:=hacc.2 j u (by rw[<-Array.getElem?_toList];exact eu)
  have e5:(vs.map (·.1))[j]?=some k:=by rw[jJ,ek];rfl
  rw[<-rel.keys,jJ]at e5
  cases e6:kvs[j]? with
  |none=>rw[e6]at e5;cases e5
  |some y=>
   rw[e6]at e5
   have e7:y.1=k:=Option.some.inj e5
   exact⟨kV k,by rw[jJ,e6];show some (kV y.1)=_;rw[e7],Qrx hkx⟩
 refine⟨.ref s.heap.objs.size,_,I.laid (a:=s.heap.objs.size) (o:=.lst (kvs.map fun p=>kV p.1)) (t':=tk) (fun b ob hb=>hk b ob hb) (jY _) ⟨by rw[jQ];lia,acc.toList,c,hV,by rw[Array.toArray_toList];exact hS⟩,rfl,q _ (I.hok.fresh (jY _))⟩
end
end L2
namespace L2
open PySem PySem.Spec PyProof.Rows PySem.SeqAt
def Itk(d:Addr)(o:Obj)(kvs:List (Key×V)):It :=
  ⟨fun i H=>H d=some (.frz o (.dK kvs))/\i<kvs.length,
   fun i H v H'=>∃k x,v=kV k/\H'=H/\kvs[i]?=some (k,x),
   fun i H=>H d=some (.frz o (.dK kvs))/\kvs.length<=i⟩
def kTn(it d:Addr)(o:Obj)(n i:Nat)(h:Heap):Prop:=∃es ep,o.data=.dict es ep/\h.IsKeyIter it d i n ep
theorem Qkn{P:Program}{w:World}{K:Fg}{tg:Expr}{it d:Addr}{o:Obj}{kvs:List (Key×V)} :
  Turn P w K tg (Itk d o kvs) [it] it (kTn it d o kvs.length) where
 mem:=by simp
 obj:=fun i h st c hc=>by
  obtain⟨_,_,_,q,e,c1,d1⟩:=st
  have e5:c=it:=by simpa using hc
  subst e5
  exact⟨q,e,fun v z=>by rw[d1]at z;cases z⟩
 keep:=fun i h h' st k=>by
  obtain⟨e1,e2,e3,h1⟩:=st
  exact⟨e1,e2,e3,h1.at fun o e=>k it (by simp) o e⟩
 item:=by
  intro X hP hw hK hc i pins s σ H E I hf st hg
  subst hP hw hK
  obtain⟨q1,hi⟩:=hg
  obtain⟨e1,ep,e3,h1⟩:=st
  obtain⟨vs,rel,da⟩:=Qkj I.hok q1 e3
  have lr:=rel.length
  obtain⟨⟨k,x⟩,ek⟩:∃kx,kvs[i]?=some kx:=⟨_,gE hi⟩
  obtain⟨⟨k',v⟩,ev,e4,rv⟩:=Qhj rel ek
  have e4':k=k':=e4
  subst e4'
  rw[lr]at h1
  obtain⟨f0,f1,f2,f3,f4,f5⟩:=hf it (by simp)
  refine wpAny_pyNext_dict_item h1 da ev fun key h' hk st' sb=>?_
  have I1:Inv X pins σ H { s with heap:=h' }:=I.turned (t':=s.toks) (fun b o hb e=>(sb.2 b hb).trans e) f0 f1 f3 f4 f5
  obtain⟨q,e,c,d1⟩:=id st'
  exact⟨key,rfl,Qiw (s:={ s with heap:=h' }) e c d1 Dc ⟨kV k,H,I1,Qrx hk,⟨k,x,rfl,rfl,ek⟩,⟨e1,ep,e3,by rw[lr];exact st'⟩,fun b hb=>(hf b hb).1⟩⟩
 done:=by
  intro X hP hw hK hc i pins s σ H E I hf st hg
  subst hP hw hK
  obtain⟨q1,hi⟩:=hg
  obtain⟨e1,ep,e3,h1⟩:=st
  obtain⟨vs,rel,da⟩:=Qkj I.hok q1 e3
  have lr:=rel.length
  rw[lr]at h1
  obtain⟨f0,f1,f2,f3,f4,f5⟩:=hf it (by simp)
  exact wpAny_pyNext_dict_end (I.ok.hd hc) h1 da (jQd.mpr Om) fun h' eb=>⟨rfl,I.turned (t':=s.toks) (fun b o hb z=>eb b o hb z) f0 f1 f3 f4 f5⟩
 self:=fun _ _ _ _ _ st h=>by
  obtain⟨_,_,_,h1⟩:=st
  exact wpAny_pyIter_keyiter h1 h
section
def iKeys(F:Addr->Prop)(td:TE):TI:=fun σ H R=>td σ H fun v H1=>∃d kvs,v=.ref d/\H1 d=some (.dK kvs)/\(F d->∀o,R (Itk d o kvs) (upd H1 d (.frz o (.dK kvs))))
end
section
variable{X:Cx}
theorem Qgd{tg a:Expr}{td:TE}(ha:PE X a td):PI X tg a (iKeys (NF X) td):=by
 intro pins s σ H R I h
 refine thn (ha pins s σ H _ I h) fun v s1 hqP=>?_
 obtain⟨x,H1,I1,r1,q1⟩:=hqP
 obtain⟨d,kvs,e,hd,q⟩:=q1
 subst e
 obtain rfl:v=Value.ref d:=r1
 have nf:=I1.nf hd
 obtain⟨o,ho,I2⟩:=I1.freeze hd
 obtain⟨z,hd',vs,rel,dd⟩:=Qbx I1.hok hd
 obtain⟨o',es',ep,h1,h2,h3,h4⟩:=id dd
 rw[ho]at h1
 cases h1
 obtain⟨vs',rel',da⟩:=Qkj I2.hok Qc h3
 have lr:=rel'.length
 refine wpAny_pyIter_dict hd' da ?_
 have I4:Inv X pins σ (upd H1 d (.frz o (.dK kvs))) { s1 with heap:=s1.heap.push { cls:=.type "dict_keyiterator",data:=.fields #[.ref d,.int 0 0,.int vs'.length 0,.int ep 0] } }:=I2.kept (t':=s1.toks) fun b o z=>jK _ z
 refine⟨s1.heap.objs.size,[s1.heap.objs.size],_,Itk d o kvs,_,rfl,I4,Qkn,⟨es',ep,h3,?_⟩,fun c hc=>?_,q nf o⟩
 .rw[lr]
  exact⟨_,yJ _ rfl,rfl,rfl⟩
 .simp only[kQ,wV,or_false]at hc
  subst hc
  exact I2.fpOk (jY _) (I2.hok.fresh (jY _))
end
theorem Qnq{d:Addr}{o:Obj}{kvs:List (Key×V)}{g:TG}{tb:TS}{D:Ends}{σ:St}{H:Hp}(Pv:Nat->St->Hp->Prop)(h0:Pv 0 σ H)(hl:∀i σ H,i<=kvs.length->Pv i σ H->H d=some (.frz o (.dK kvs)))
  (hs:∀i k x σ H,kvs[i]?=some (k,x)->Pv i σ H->g (kV k) σ H fun σ2 H2=>tb { D with nx:=Pv (i+1),ct:=Pv (i+1),bk:=D.nx } σ2 H2) (hd:∀σ H,Pv kvs.length σ H->D.nx σ H) :
  ∃W:Nat->Nat->St->Hp->Prop,(∃m,W 0 m σ H)/\∀i n σ H,W i n σ H ->
   ((Itk d o kvs).stop i H/\D.nx σ H)\/((Itk d o kvs).go i H/\∃N:St->Hp->Prop,(∀σ' H',N σ' H'->∃m',m'<n/\W (i+1) m' σ' H')/\∀x H',(Itk d o kvs).yld i H x H'->g x σ H' fun σ2 H2=>tb { D with nx:=N,ct:=N,bk:=D.nx } σ2 H2):=by
 refine⟨fun i n σ H=>n=kvs.length-i/\i<=kvs.length/\Pv i σ H,⟨_,rfl,jQc _,h0⟩,?_⟩
 rintro i n σ H ⟨rfl,hi,p⟩
 have q1:=hl i σ H hi p
 by_cases hlt:i<kvs.length
 .refine .inr ⟨⟨q1,hlt⟩,Pv (i+1),fun σ' H' p'=>⟨kvs.length-(i+1),Om,rfl,hlt,p'⟩,fun x H' y=>?_⟩
  obtain⟨k,u,rfl,rfl,y1⟩:=y
  exact hs i k u σ H' y1 p
 .have e:i=kvs.length:=Om
  subst e
  exact .inl ⟨⟨q1,jY _⟩,hd σ H p⟩
theorem Qad{H H1:Hp}{D:Addr}{o:HO}(s:Same H H1)(hD:H D=none):Same H (upd H1 D o):=fun b u e=>by
 rw[Qj (Qk e hD)];exact s b u e
structure Walk{α:Type}(J:It)(H:Hp)(xs:List α)(val:α->V):Prop where
 go:∀i H1,Same H H1->i<xs.length->J.go i H1
 stop:∀H1,Same H H1->J.stop xs.length H1
 yl:∀i H1 v H2,Same H H1->J.yld i H1 v H2->i<xs.length->H2=H1/\∃x,xs[i]?=some x/\v=val x
theorem Zn{α:Type}{K:Fg}{H:Hp}{a:Addr}{xs:List α}{val:α->V}(h:SqL K H a (xs.map val)):Walk (Itl K a) H xs val where
 go i H1 s hi:=⟨_,_,s.seq h,gE (by rw[jQ];exact hi)⟩
 stop H1 s:=⟨_,s.seq h,by rw[jQ];exact jY _⟩
 yl i H1 v H2 s:=by
  rintro⟨rfl,e1⟩ hi
  have e:=e1 _ (s.seq h)
  rw[jJ]at e
  obtain⟨x,ex,ev⟩:=xV.mp e
  exact⟨rfl,x,ex,ev.symm⟩
theorem Ke{α:Type}{K:Fg}{H:Hp}{a:Addr}{xs:List α}{val:α->V}(h:SqT K H a (xs.map val)):Walk (Itt K a) H xs val where
 go i H1 s hi:=⟨_,_,s.tup h,gE (by rw[jQ];exact hi)⟩
 stop H1 s:=⟨_,s.tup h,by rw[jQ];exact jY _⟩
 yl i H1 v H2 s:=by
  rintro⟨rfl,e1⟩ hi
  have e:=e1 _ (s.tup h)
  rw[jJ]at e
  obtain⟨x,ex,ev⟩:=xV.mp e
  exact⟨rfl,x,ex,ev.symm⟩
theorem Qae{α:Type}{xs:List α}{i:Nat}{x:α}(h:xs[i]?=some x):xs.take (i+1)=xs.take i++[x]:=by
 obtain⟨hi,e⟩:=jW.mp h
 rw[kJb,h]
 rfl
theorem Vf{α β:Type}{J:It}{H:Hp}{xs:List α}{val:α->V}{D:Addr}{cs τ0:St}{te:TE}{Q:Addr->Hp->Prop}(R:Hp->V->β->Prop)(f:α->β)(hτ:τ0=none::cs)(hw:Walk J H xs val)(fw:xs.length<sizeLine)(hD:H D=none)
  (Rs:∀{H1 H2 v x},Same H H1->Same H1 H2->R H1 v x->R H2 v x) (Ru:∀{H1 v x zs},R H1 v x->R (upd H1 D (.lst zs)) v x)
  (hs:∀x∈xs,∀H1,Same H H1->H1 D≠none->∀P:V->Hp->Prop,(∀v H2,Same H1 H2->R H2 v (f x)->P v H2)->te (some (val x)::cs) H1 P)
  (hd:∀H1 ys,Same H H1->H1 D=some (.lst ys)->Paired (R H1) ys (xs.map f)->Q D H1) :
  LcW J D τ0 H (Qbj 0) tYes te Q:=by
 subst hτ
 let Pv1:Nat->St->List V->Hp->Prop:=fun i τ ys H1=>∃v:Option V,τ=v::cs/\H1 D=some (.lst ys)/\Same H H1/\i<=xs.length/\Paired (R H1) ys ((xs.take i).map f)
 refine Kk (n:=xs.length) Pv1 ?_ (fun i τ ys H1 hi h=>?_) (fun i τ ys H1 hi h=>?_) (fun τ ys H1 h=>?_) ?_ ?_
 .exact⟨none,rfl,Qc,Qd hD _,jQc _,.nil⟩
 .obtain⟨v,rfl,hD1,s1,_,hp⟩:=h
  refine⟨hD1,?_⟩
  have:=Paired.length hp
  rw[jQ,xJ]at this
  lia
 .obtain⟨v,rfl,hD1,s1,_,hp⟩:=h
  exact hw.go i H1 s1 hi
 .obtain⟨v,rfl,hD1,s1,_,hp⟩:=h
  exact hw.stop H1 s1
 .rintro i τ ys H1 x H2 hi ⟨v,rfl,hD1,s1,_,hp⟩ hy
  obtain⟨rfl,y,ey,rfl⟩:=hw.yl i H1 x H2 s1 hy hi
  refine hs y (yQ ey) _ s1 (by rw[hD1];exact kXc _) _ fun v' H3 s3 r=>⟨s3 _ _ hD1,_,rfl,Qc,Qad (s1.trans s3) hD,hi,?_⟩
  rw[Qae ey,yK]
  have h1:Paired (R (upd H3 D (.lst (ys++[v'])))) ys ((xs.take i).map f):=by
   clear hD1
   generalize ((xs.take i).map f)=bs at hp
   generalize hz:(HO.lst (ys++[v']))=o
   have:∀v b,R _ v b->R (upd H3 D o) v b:=fun v b h=>by rw[<-hz];exact Ru (Rs s1 s3 h)
   clear hz
   induction hp with
   |nil=>exact .nil
   |cons z _ ih=>exact .cons (this _ _ z) ih
  exact Paired.snoc h1 (Ru r)
 .rintro τ ys H1 ⟨v,rfl,hD1,s1,_,hp⟩
  rw[wY]at hp
  exact hd H1 ys s1 hD1 hp
theorem Kf{α:Type}{g:α->V}:∀{ys:List V} {xs:List α},Paired (fun v x=>v=g x) ys xs->ys=xs.map g
 |_,_,.nil=>rfl
 |_,_,.cons e t=>by rw[e,Kf t];rfl
theorem Zi{α β:Type}{J:It}{H:Hp}{xs:List α}{val:α->V}{D:Addr}{cs τ0:St}{te:TE}{Q:Addr->Hp->Prop}(g:β->V)(f:α->β)(hτ:τ0=none::cs)(hw:Walk J H xs val)(fw:xs.length<sizeLine)(hD:H D=none)
  (hs:∀x∈xs,∀H1,Same H H1->∀P:V->Hp->Prop,(∀H2,Same H1 H2->P (g (f x)) H2)->te (some (val x)::cs) H1 P)
  (hd:∀H1,Same H H1->H1 D=some (.lst ((xs.map f).map g))->Q D H1) :
  LcW J D τ0 H (Qbj 0) tYes te Q :=
 Vf (fun _ v x=>v=g x) f hτ hw fw hD (fun _ _ h=>h) (fun h=>h) (fun x hx H1 s1 _ P h=>hs x hx H1 s1 P fun H2 s2=>h _ H2 s2 rfl) fun H1 ys s1 h1 h2=>hd H1 s1 (by rw[h1,Kf h2])
theorem Jq{α β:Type}{xs:List α}{i:Nat}{x:α}(h:xs[i]?=some x)(pr:α->Bool):(xs.take (i+1)).filter pr=(xs.take i).filter pr++(if pr x=true then[x]else[]):=by
 rw[Qae h,List.filter_append]
 congr 1
 by_cases c:pr x=true
 .rw[if_pos c,kYa c];rfl
 .rw[if_neg c,kYb c];rfl
theorem Qrz{α β:Type}{J:It}{H:Hp}{xs:List α}{val:α->V}{D:Addr}{cs τ0:St}{tt:TT}{te:TE}{Q:Addr->Hp->Prop}(g:β->V)(f:α->β)(pr:α->Bool)(hτ:τ0=none::cs)(hw:Walk J H xs val)(fw:xs.length<sizeLine)(hD:H D=none)
  (ht:∀x∈xs,∀H1,Same H H1->∀P:Bool->Hp->Prop,(∀H2,Same H1 H2->P (pr x) H2)->tt (some (val x)::cs) H1 P)
  (hs:∀x∈xs,pr x=true->∀H1,Same H H1->∀P:V->Hp->Prop,(∀H2,Same H1 H2->P (g (f x)) H2)->te (some (val x)::cs) H1 P)
  (hd:∀H1,Same H H1->H1 D=some (.lst (((xs.filter pr).map f).map g))->Q D H1) :
  LcW J D τ0 H (Qbj 0) tt te Q:=by
 subst hτ
 let Pv2:Nat->St->List V->Hp->Prop:=fun i τ ys H1=>∃v:Option V,τ=v::cs/\H1 D=some (.lst ys)/\Same H H1/\i<=xs.length/\ys=(((xs.take i).filter pr).map f).map g
 refine Kk (n:=xs.length) Pv2 ?_ (fun i τ ys H1 hi h=>?_) (fun i τ ys H1 hi h=>?_) (fun τ ys H1 h=>?_) ?_ ?_
 .exact⟨none,rfl,Qc,Qd hD _,jQc _,rfl⟩
 .obtain⟨v,rfl,hD1,s1,_,rfl⟩:=h
  refine⟨hD1,?_⟩
  rw[jQ,jQ]
  have h1:=jXe pr (xs.take i)
  rw[xJ]at h1
  lia
 .obtain⟨v,rfl,hD1,s1,_,hp⟩:=h
  exact hw.go i H1 s1 hi
 .obtain⟨v,rfl,hD1,s1,_,hp⟩:=h
  exact hw.stop H1 s1
 .rintro i τ ys H1 x H2 hi ⟨v,rfl,hD1,s1,_,rfl⟩ hy
  obtain⟨rfl,y,ey,rfl⟩:=hw.yl i H1 x H2 s1 hy hi
  refine ht y (yQ ey) _ s1 _ fun H3 s3=>?_
  by_cases c:pr y=true
  .rw[c]
   refine iteT ?_
   refine hs y (yQ ey) c _ (s1.trans s3) _ fun H4 s4=>⟨(s3.trans s4) _ _ hD1,_,rfl,Qc,Qad ((s1.trans s3).trans s4) hD,hi,?_⟩
   rw[Jq (β:=β) ey pr,if_pos c,yK,yK]
   rfl
  .rw[Bool.eq_false_iff.mpr c]
   refine iteF ⟨_,rfl,s3 _ _ hD1,s1.trans s3,hi,?_⟩
   rw[Jq (β:=β) ey pr,if_neg c,kKf]
 .rintro τ ys H1 ⟨v,rfl,hD1,s1,_,rfl⟩
  rw[wY]at hD1
  exact hd H1 s1 hD1
structure WalkP{α:Type}(K:Fg)(J:It)(H:Hp)(xs:List α)(v1 v2:α->V):Prop where
 go:∀i H1,Same H H1->i<xs.length->J.go i H1
 stop:∀H1,Same H H1->J.stop xs.length H1
 yl:∀i H1 v H2,Same H H1->J.yld i H1 v H2->i<xs.length->Same H1 H2/\∃x T,xs[i]?=some x/\v=.ref T/\SqT K H2 T [v1 x,v2 x]
section
variable{α β:Type}{K:Fg}{H:Hp}{xs:List α}{v1 v2:α->V}
theorem Vb{m1 m2:Bool}{a b:Addr}(h1:∀H1,Same H H1->Sq K m1 H1 a (xs.map v1))(h2:∀H1,Same H H1->Sq K m2 H1 b (xs.map v2)):WalkP K (Itz K m1 m2 a b) H xs v1 v2 where
 go i H1 s hi:=⟨_,_,v1 xs[i],v2 xs[i],h1 H1 s,h2 H1 s,by rw[jJ,gE hi];rfl,by rw[jJ,gE hi];rfl⟩
 stop H1 s:=⟨_,_,h1 H1 s,h2 H1 s,.inl (by rw[jQ];exact jY _)⟩
 yl i H1 v H2 s:=by
  rintro⟨T,x,y,rfl,hT,rfl,e1,e2⟩ hi
  have q1:=e1 _ (h1 H1 s)
  have q2:=e2 _ (h2 H1 s)
  rw[jJ,gE hi]at q1 q2
  cases q1
  cases q2
  exact⟨Qd hT _,xs[i],T,gE hi,rfl,Qy Qc⟩
theorem Qhn{m:Bool}{a:Addr}{n:Nat}{g:Nat->V}(h:∀H1,Same H H1->Sq K m H1 a ((List.range n).map g)):WalkP K (Ite K m a) H (List.range n) (fun k=>.int ((k:Nat):Int)) g where
 go i H1 s hi:=⟨_,g i,h H1 s,by rw[jJ,jXa (by rw[jV]at hi;exact hi)];rfl⟩
 stop H1 s:=⟨_,h H1 s,by rw[jQ];exact jY _⟩
 yl i H1 v H2 s:=by
  rintro⟨T,x,rfl,hT,rfl,e⟩ hi
  have q:=e _ (h H1 s)
  rw[jV]at hi
  rw[jJ,jXa hi]at q
  cases q
  exact⟨Qd hT _,i,T,jXa hi,rfl,Qy Qc⟩
theorem Vg{l:Addr}{vs:List V}(hl:SqL K H l vs)(hp:Paired (fun v x=>∃t,v=.ref t/\SqT K H t [v1 x,v2 x]) vs xs):WalkP K (Itl K l) H xs v1 v2 where
 go i H1 s hi:=⟨vs,vs[i]'(by rw[Paired.length hp];exact hi),s.seq hl,gE _⟩
 stop H1 s:=⟨vs,s.seq hl,by rw[Paired.length hp];exact jY _⟩
 yl i H1 v H2 s:=by
  rintro⟨rfl,e⟩ hi
  obtain⟨x,ex,t,rfl,ht⟩:=L2.Paired.getR hp (e _ (s.seq hl))
  exact⟨fun _ _ z=>z,x,t,ex,rfl,s.tup ht⟩
theorem Qge{J:It}{D:Addr}{cs τ0:St}{tt:TT}{te:TE}{Q:Addr->Hp->Prop}(R:Hp->V->β->Prop)(f:α->β)(pr:α->Bool)(hτ:τ0=none::none::cs)(hw:WalkP K J H xs v1 v2)(fw:xs.length<sizeLine)(hD:H D=none)
  (Rs:∀{H1 H2 v x},Same H H1->Same H1 H2->R H1 v x->R H2 v x) (Ru:∀{H1 v x zs},R H1 v x->R (upd H1 D (.lst zs)) v x)
  (ht:∀x∈xs,∀H1,Same H H1->∀P:Bool->Hp->Prop,(∀H2,Same H1 H2->P (pr x) H2)->tt (some (v1 x)::some (v2 x)::cs) H1 P)
  (hs:∀x∈xs,pr x=true->∀H1,Same H H1->H1 D≠none->∀P:V->Hp->Prop,(∀v H2,Same H1 H2->R H2 v (f x)->P v H2)->te (some (v1 x)::some (v2 x)::cs) H1 P)
  (hd:∀H1 ys,Same H H1->H1 D=some (.lst ys)->Paired (R H1) ys ((xs.filter pr).map f)->Q D H1) :
  LcW J D τ0 H (Qng K 0 1) tt te Q:=by
 subst hτ
 let Pv3:Nat->St->List V->Hp->Prop:=fun i τ ys H1=>∃u v:Option V,τ=u::v::cs/\H1 D=some (.lst ys)/\Same H H1/\i<=xs.length/\Paired (R H1) ys (((xs.take i).filter pr).map f)
 refine Kk (n:=xs.length) Pv3 ?_ (fun i τ ys H1 hi h=>?_) (fun i τ ys H1 hi h=>?_) (fun τ ys H1 h=>?_) ?_ ?_
 .exact⟨none,none,rfl,Qc,Qd hD _,jQc _,.nil⟩
 .obtain⟨u,v,rfl,hD1,s1,_,hp⟩:=h
  refine⟨hD1,?_⟩
  have:=Paired.length hp
  have h1:=jXe pr (xs.take i)
  rw[jQ]at this
  rw[xJ]at h1
  lia
 .obtain⟨u,v,rfl,hD1,s1,_,hp⟩:=h
  exact hw.go i H1 s1 hi
 .obtain⟨u,v,rfl,hD1,s1,_,hp⟩:=h
  exact hw.stop H1 s1
 .rintro i τ ys H1 x H2 hi ⟨u,v,rfl,hD1,s1,_,hp⟩ hy
  obtain⟨s2,y,T,ey,rfl,hT⟩:=hw.yl i H1 x H2 s1 hy hi
  have grow:∀{H3:Hp} {o:HO},Same H1 H3->(∀v b,R H3 v b->R (upd H3 D o) v b)->Paired (R (upd H3 D o)) ys (((xs.take i).filter pr).map f):=fun{H3 o} s3 ru=>by
   clear hD1
   generalize (((xs.take i).filter pr).map f)=bs at hp
   have:∀v b,R H1 v b->R (upd H3 D o) v b:=fun v b h=>ru v b (Rs s1 s3 h)
   induction hp with
   |nil=>exact .nil
   |cons z _ ih=>exact .cons (this _ _ z) ih
  refine⟨T,_,rfl,hT,rfl,_,_,rfl,_,_,rfl,rfl,?_⟩
  refine ht y (yQ ey) _ (s1.trans s2) _ fun H3 s3=>?_
  have s13:=s2.trans s3
  by_cases c:pr y=true
  .rw[c]
   refine iteT (hs y (yQ ey) c _ (s1.trans s13) (by rw[s13 _ _ hD1];exact kXc _) _ fun v' H4 s4 r=>⟨(s13.trans s4) _ _ hD1,_,_,rfl,Qc,Qad ((s1.trans s13).trans s4) hD,hi,?_⟩)
   rw[Jq (β:=β) ey pr,if_pos c,yK]
   exact Paired.snoc (grow (s13.trans s4) fun v b h=>Ru h) (Ru r)
  .rw[Bool.eq_false_iff.mpr c]
   refine iteF ⟨_,_,rfl,s13 _ _ hD1,s1.trans s13,hi,?_⟩
   rw[Jq (β:=β) ey pr,if_neg c,kKf]
   clear hD1 grow
   generalize (((xs.take i).filter pr).map f)=bs at hp
   induction hp with
   |nil=>exact .nil
   |cons z _ ih=>exact .cons (Rs s1 s13 z) ih
 .rintro τ ys H1 ⟨u,v,rfl,hD1,s1,_,hp⟩
  rw[wY]at hp
  exact hd H1 ys s1 hD1 hp
theorem Wa{J:It}{D:Addr}{cs τ0:St}{te:TE}{Q:Addr->Hp->Prop}(g:β->V)(f:α->β)(hτ:τ0=none::none::cs)(hw:WalkP K J H xs v1 v2)(fw:xs.length<sizeLine)(hD:H D=none)
  (hs:∀x∈xs,∀H1,Same H H1->∀P:V->Hp->Prop,(∀H2,Same H1 H2->P (g (f x)) H2)->te (some (v1 x)::some (v2 x)::cs) H1 P)
  (hd:∀H1,Same H H1->H1 D=some (.lst ((xs.map f).map g))->Q D H1) :
  LcW J D τ0 H (Qng K 0 1) tYes te Q :=
 Qge (fun _ v x=>v=g x) f (fun _=>true) hτ hw fw hD (fun _ _ h=>h) (fun h=>h) (fun x _ H1 _ P h=>h H1 fun _ _ z=>z) (fun x hx _ H1 s1 _ P h=>hs x hx H1 s1 P fun H2 s2=>h _ H2 s2 rfl) fun H1 ys s1 h1 h2=>hd H1 s1 (by
  rw[h1,Kf h2,List.filter_eq_self.mpr fun _ _=>rfl])
theorem Qgf{J:It}{D:Addr}{cs τ0:St}{tt:TT}{te:TE}{Q:Addr->Hp->Prop}(g:β->V)(f:α->β)(pr:α->Bool)(hτ:τ0=none::none::cs)(hw:WalkP K J H xs v1 v2)(fw:xs.length<sizeLine)(hD:H D=none)
  (ht:∀x∈xs,∀H1,Same H H1->∀P:Bool->Hp->Prop,(∀H2,Same H1 H2->P (pr x) H2)->tt (some (v1 x)::some (v2 x)::cs) H1 P)
  (hs:∀x∈xs,pr x=true->∀H1,Same H H1->∀P:V->Hp->Prop,(∀H2,Same H1 H2->P (g (f x)) H2)->te (some (v1 x)::some (v2 x)::cs) H1 P)
  (hd:∀H1,Same H H1->H1 D=some (.lst (((xs.filter pr).map f).map g))->Q D H1) :
  LcW J D τ0 H (Qng K 0 1) tt te Q :=
 Qge (fun _ v x=>v=g x) f pr hτ hw fw hD (fun _ _ h=>h) (fun h=>h) ht (fun x hx c H1 s1 _ P h=>hs x hx c H1 s1 P fun H2 s2=>h _ H2 s2 rfl) fun H1 ys s1 h1 h2=>hd H1 s1 (by rw[h1,Kf h2])
end
end L2
namespace L2
open PySem PySem.Spec PySem.W PyProof.Rows
open PySem.SeqAt
end L2
namespace HT
open PySem PySem.Spec PyProof.Rows
end HT
namespace L2
open PySem PySem.Spec PySem.W PyProof.Rows
open PySem.SeqAt
end L2
namespace L2
open PySem
section
theorem lenS{α:Type}{l:List α}{n:Nat}(h:l.length=n+1):∃a t,l=a::t/\t.length=n:=by
 cases l with
 |nil=>exact absurd h (Nat.succ_ne_zero n).symm
 |cons a t=>exact⟨a,t,rfl,Nat.succ.inj h⟩
theorem len1{α:Type}{l:List α}(h:l.length=1):∃a,l=[a]:=by
 obtain⟨a,t,rfl,h'⟩:=lenS h
 exact⟨a,congrArg _ (List.length_eq_zero_iff.mp h')⟩
theorem len2{α:Type}{l:List α}(h:l.length=2):∃a b,l=[a,b]:=by
 obtain⟨a,t,rfl,h'⟩:=lenS h
 obtain⟨b,rfl⟩:=len1 h'
 exact⟨a,b,rfl⟩
theorem len3{α:Type}{l:List α}(h:l.length=3):∃a b c,l=[a,b,c]:=by
 obtain⟨a,t,rfl,h'⟩:=lenS h
 obtain⟨b,c,rfl⟩:=len2 h'
 exact⟨a,b,c,rfl⟩
theorem len4{α:Type}{l:List α}(h:l.length=4):∃a b c d,l=[a,b,c,d]:=by
 obtain⟨a,t,rfl,h'⟩:=lenS h
 obtain⟨b,c,d,rfl⟩:=len3 h'
 exact⟨a,b,c,d,rfl⟩
theorem len5{α:Type}{l:List α}(h:l.length=5):∃a b c d e,l=[a,b,c,d,e]:=by
 obtain⟨a,t,rfl,h'⟩:=lenS h
 obtain⟨b,c,d,e,rfl⟩:=len4 h'
 exact⟨a,b,c,d,e,rfl⟩
theorem bind1{F:List Value->Prop}(h:∀a,F [a]):∀us:List Value,us.length=1->F us:=fun us hl=>by
 obtain⟨a,rfl⟩:=len1 hl
 exact h a
theorem Zo{F:List Value->Prop}(h:∀a b,F [a,b]):∀us:List Value,us.length=2->F us:=fun us hl=>by
 obtain⟨a,b,rfl⟩:=len2 hl
 exact h a b
theorem Jv{F:List Value->Prop}(h:∀a b c,F [a,b,c]):∀us:List Value,us.length=3->F us:=fun us hl=>by
 obtain⟨a,b,c,rfl⟩:=len3 hl
 exact h a b c
theorem Qch{F:List Value->Prop}(h:∀a b c d,F [a,b,c,d]):∀us:List Value,us.length=4->F us:=fun us hl=>by
 obtain⟨a,b,c,d,rfl⟩:=len4 hl
 exact h a b c d
theorem bind5{F:List Value->Prop}(h:∀a b c d e,F [a,b,c,d,e]):∀us:List Value,us.length=5->F us:=fun us hl=>by
 obtain⟨a,b,c,d,e,rfl⟩:=len5 hl
 exact h a b c d e
theorem Qci{s1 s2 s3:TS}{D:Ends}{σ:St}{H:Hp}(h:let r3:TS:=s3;let r2:TS:=tSeq s2 r3;tSeq s1 r2 D σ H):(tSeq s1 (tSeq s2 (s3))) D σ H:=h
theorem Qnr{s1 s2 s3 s4:TS}{D:Ends}{σ:St}{H:Hp}(h:let r4:TS:=s4;let r3:TS:=tSeq s3 r4;let r2:TS:=tSeq s2 r3;tSeq s1 r2 D σ H):(tSeq s1 (tSeq s2 (tSeq s3 (s4)))) D σ H:=h
theorem Qns{s1 s2 s3 s4 s5:TS}{D:Ends}{σ:St}{H:Hp}(h:let r5:TS:=s5;let r4:TS:=tSeq s4 r5;let r3:TS:=tSeq s3 r4;let r2:TS:=tSeq s2 r3;tSeq s1 r2 D σ H):(tSeq s1 (tSeq s2 (tSeq s3 (tSeq s4 (s5))))) D σ H:=h
theorem Qnt{s1 s2 s3 s4 s5 s6:TS}{D:Ends}{σ:St}{H:Hp}(h:let r6:TS:=s6;let r5:TS:=tSeq s5 r6;let r4:TS:=tSeq s4 r5;let r3:TS:=tSeq s3 r4;let r2:TS:=tSeq s2 r3;tSeq s1 r2 D σ H):(tSeq s1 (tSeq s2 (tSeq s3 (tSeq s4 (tSeq s5 (s6)))))) D σ H:=h
end
end L2
namespace Nb
open PySem L2
def top(i:Nat):Stmt:=PySem.Challenge.pw_nonebetter_k24_lines_of_bounds.main.body.getD i (.Pass ⟨0,0,0,0⟩)
structure Pb where
 (rs:List (List Int×Int)) (cs:List Int)
def Pb.n(b:Pb):Nat:=b.cs.length
def Pb.m(b:Pb):Nat:=b.rs.length
def Pb.N(b:Pb):Nat:=b.n+b.m
def Pb.row(b:Pb)(i:Nat):List Int×Int:=b.rs.getD i ([],0)
def Pb.F(b:Pb)(t j:Nat):Int:=if t<b.n then(if t=j then 1 else 0)else(b.row (t-b.n)).1.getD j 0
def Pb.lo(b:Pb)(t:Nat):Int:=if t<b.n then 0 else(b.row (t-b.n)).2
def Pb.cA(b:Pb)(j:Nat):Int:=b.cs.getD j 0
def unl(j:Nat):Int:=(((j:Nat):Int)+1)*7919 % 1009+1
def B18:Int:=1000000000000000000
def In18(x:Int):Prop:=-B18<=x/\x<=B18
structure Pb.Ok(b:Pb):Prop where
 n7:b.n<=7
 m7:b.m<=7
 ln:∀r∈b.rs,r.1.length=b.n
 nu:∀r∈b.rs,∀x∈r.1,In18 x
 le:∀r∈b.rs,In18 r.2
 co:∀x∈b.cs,In18 x
theorem Qdy:In18 0:=by unfold In18 B18;decide
theorem Qko:In18 1:=by unfold In18 B18;decide
theorem getD_in{xs:List Int}{j:Nat}(h:∀x∈xs,In18 x):In18 (xs.getD j 0):=by
 rw[jZ]
 cases e:xs[j]? with
 |none=>exact Qdy
 |some x=>exact h x (yQ e)
section
variable{b:Pb}
theorem Pb.Ok.row(h:b.Ok){i:Nat}(hi:i<b.m):b.row i∈b.rs:=by
 unfold Pb.row
 rw[jZ,gE hi]
 exact jQf hi
theorem Pb.Ok.rowIn(h:b.Ok)(i j:Nat):In18 ((b.row i).1.getD j 0)/\In18 (b.row i).2:=by
 by_cases c:i<b.m
 .exact⟨getD_in (h.nu _ (h.row c)),h.le _ (h.row c)⟩
 .have e:b.row i=([],0):=by
   unfold Pb.row
   rw[jZ,kQd (by unfold Pb.m at c;lia)]
   rfl
  rw[e]
  exact⟨Qdy,Qdy⟩
theorem Pb.Ok.F(h:b.Ok)(t j:Nat):In18 (b.F t j):=by
 unfold Pb.F
 split
 .split
  .exact Qko
  .exact Qdy
 .exact(h.rowIn _ _).1
theorem Pb.Ok.lo(h:b.Ok)(t:Nat):In18 (b.lo t):=by
 unfold Pb.lo
 split
 .exact Qdy
 .exact(h.rowIn _ 0).2
theorem Pb.Ok.cA(h:b.Ok)(j:Nat):In18 (b.cA j):=getD_in h.co
theorem Qpu(j:Nat):1<=unl j/\unl j<=1009:=by
 unfold unl
 have:=jYc ((((j:Nat):Int)+1)*7919) (show(1009:Int)≠0 by decide)
 have:=jYd ((((j:Nat):Int)+1)*7919) (show(0:Int)<1009 by decide)
 lia
theorem unl18(j:Nat):In18 (unl j):=by
 have:=Qpu j
 unfold In18 B18
 lia
theorem Pb.fx(b:Pb):Fx b.n b.N b.F b.lo:=⟨fun t h j=>by unfold Pb.F;rw[if_pos h],fun t h=>by unfold Pb.lo;rw[if_pos h],by unfold Pb.N;lia⟩
def Cx:Int:=5040*B18 ^ 7
theorem fac_le:∀{n:Nat},n<=7->fac n*B18 ^ n<=Cx:=by
 intro n h
 have h8:n=0\/n=1\/n=2\/n=3\/n=4\/n=5\/n=6\/n=7:=Om
 rcases h8 with e | e | e | e | e | e | e | e<;>subst e<;>decide +kernel
theorem De_18{n:Nat}(hn:n<=7){v:Nat->Nat->Int}(h:∀i j,In18 (v i j)):-Cx<=De n v/\De n v<=Cx:=by
 have h1:=Qpd (B:=B18) Dc (n:=n) (v:=v) fun i _ j _=>h i j
 have h2:=fac_le hn
 lia
theorem Qcj(h:b.Ok){o:Nat->Nat}{g:Nat->Int}(hg:∀j,In18 (g j))(k:Nat):-Cx<=Ln b.n b.F o g k/\Ln b.n b.F o g k<=Cx:=by
 have h1:=De_18 h.n7 (v:=up (fun k=>b.F (o k)) k g) fun i j=>by
  by_cases c:i=k
  .rw[c,Xm];exact hg j
  .rw[Xd c];exact h.F _ _
 unfold Ln sD
 split<;>lia
theorem Qdz(h:b.Ok){o:Nat->Nat}:-Cx<=scl b.n b.F o/\scl b.n b.F o<=Cx:=by
 have h1:=De_18 h.n7 (v:=fun k=>b.F (o k)) fun i j=>h.F _ _
 unfold scl sD dD
 split<;>lia
def Cy:Int:=7*(Cx*B18)
theorem Qkp(h:b.Ok){o:Nat->Nat}{one:Nat->Bool}{g:Nat->Int}(hg:∀j,In18 (g j)):-Cy<=Vo b.n b.F b.lo o one g/\Vo b.n b.F b.lo o one g<=Cy:=by
 have h1:=Qfn (f:=fun k=>Ln b.n b.F o g k*en b.lo o one k) (c:=Cx*B18) (n:=b.n) fun k _=>Qbd (Qcj h hg k) (by
  unfold en
  split
  .exact Qko
  .exact h.lo _)
 have h2:((b.n:Nat):Int)*(Cx*B18)<=7*(Cx*B18):=jXd (by have:=h.n7;lia) Dk
 unfold Vo Vl Cy
 omega
theorem Ji{x:Int}(h:-(10*Cy)<=x/\x<=10*Cy):Big x:=by
 unfold Big
 have e:(10*Cy).toNat<2 ^ 4000:=Dk
 have e1:0<=10*Cy:=Dk
 have e2:(2:Nat) ^ 4000=2 ^ 4000:=rfl
 generalize (2:Nat) ^ 4000=z at *
 generalize 10*Cy=y at *
 lia
theorem cxy:1000000*Cx<=Cy/\1000000<=Cx/\0<Cx:=Dk
end
structure TbA where
 (pa le we he ou on inn:Addr)
structure TbS where
 (o:Nat->Nat) (one:Nat->Bool) (js:List Nat) (ad:Nat->Addr) (pr p0 p1:Addr) (wk:Int)
def tbL(a:TbA)(n:Nat)(pr:Addr)(wk sc:Int)(x:Str):Option V :=
 if x="prices" then some (.ref pr)else if x="inner" then some (.ref a.inn)else if x="ones" then some (.ref a.on)else if x="outer" then some (.ref a.ou)
 else if x="scale" then some (.int sc)else if x="work" then some (.int wk)else if x="held" then some (.ref a.he)else if x="weights" then some (.ref a.we)
 else if x="leasts" then some (.ref a.le)else if x="parts" then some (.ref a.pa)else if x="size" then some (.int ((n:Nat):Int))else none
def tbN:List Str:=["size","parts","leasts","weights","held","work","scale","outer","ones","inner","prices"]
structure TbTxt(K:Fg)(mg:Str->Option Value)(C:Addr):Prop where
 cl:Cls K C
 na:∀x∈tbN,NoAttr K C x
 mgC:mg "Tableau"=some (.ref C)
def LnF(n:Nat)(L:Nat->Int)(v:Int)(k:Nat):Int:=if k<n then L k else v
def IlA(H:Hp)(x:Addr)(n:Nat)(f:Nat->Int):Prop:=H x=some (.lst ((List.range n).map fun k=>V.int (f k)))
def LnA(H:Hp)(x:Addr)(n:Nat)(L:Nat->Int)(v:Int):Prop:=IlA H x (n+1) (LnF n L v)
def prt(r:List Int×Int):List (Nat×Int):=((List.range r.1.length).filter fun j=>!decide (r.1.getD j 0=0)).map fun j=>(j,r.1.getD j 0)
def PtA(K:Fg)(H:Hp):List V->List (Nat×Int)->Prop:=Paired fun v p=>∃t,v=V.ref t/\SqT K H t [.int ((p.1:Nat):Int),.int p.2]
structure RoAt(K:Fg)(H:Hp)(a:TbA)(b:Pb):Prop where
 pa:∃us,SqL K H a.pa us/\Paired (fun v r=>∃l ts,v=V.ref l/\SqL K H l ts/\PtA K H ts (prt r)) us b.rs
 le:SqL K H a.le (b.rs.map fun r=>V.int r.2)
 we:∃ws:List Int,SqL K H a.we (ws.map V.int)/\ws.length=b.m/\∀w∈ws,1<=w/\w<=Cx
 he:H a.he=some (.dK [])
def TbO(C:Addr)(H:Hp)(p:Addr)(a:TbA)(b:Pb)(s:TbS):Prop:=∃dx fs,H p=some (.ins C dx fs)/\fs.length<100/\∀x,fs.lookup x=tbL a b.n s.pr s.wk (scl b.n b.F s.o) x
structure Tab(K:Fg)(C:Addr)(H0 H:Hp)(p:Addr)(a:TbA)(b:Pb)(s:TbS):Prop where
 ob:TbO C H p a b s
 ok:b.Ok
 ro:RoAt K H0 a b
 ba:Same H0 H
 ou:H a.ou=some (.lst ((List.range b.n).map fun k=>V.int ((s.o k:Nat):Int)))
 on:H a.on=some (.lst ((List.range b.n).map fun k=>V.bl (s.one k)))
 inn:H a.inn=some (.dK (s.js.map fun j=>((Sum.inl ((j:Nat):Int):Key),V.ref (s.ad j))))
 lns:∀j∈s.js,LnA H (s.ad j) b.n (Ln b.n b.F s.o (b.F j)) (Vo b.n b.F b.lo s.o s.one (b.F j))
 pr:H s.pr=some (.lst [.ref s.p0,.ref s.p1])
 l0:LnA H s.p0 b.n (Ln b.n b.F s.o b.cA) (Vo b.n b.F b.lo s.o s.one b.cA)
 l1:LnA H s.p1 b.n (Ln b.n b.F s.o unl) (Vo b.n b.F b.lo s.o s.one unl)
 nd:(a.ou::a.on::s.pr::s.p0::s.p1::s.js.map s.ad).Nodup
 f0:H0 p=none/\H0 a.inn=none/\∀x∈(a.ou::a.on::s.pr::s.p0::s.p1::s.js.map s.ad),H0 x=none
 jn:s.js.Nodup
 jm:∀j,j∈s.js↔j<b.n/\∀k,k<b.n->s.o k≠j
 st:Stt b.n b.N b.F s.o s.one
section
variable{K:Fg}{mg:Str->Option Value}{C:Addr}{H0 H H':Hp}{p:Addr}{a:TbA}{b:Pb}{s:TbS}
theorem TbO.fld{f:Str}{v:V}{Q:V->Prop}(S:TbO C H p a b s)(T:TbTxt K mg C)(hf:f∈tbN)(hv:tbL a b.n s.pr s.wk (scl b.n b.F s.o) f=some v)(q:Q v):∃a C dx fs v',V.ref p=.ref a/\H a=some (.ins C dx fs)/\Cls K C/\NoAttr K C f/\fs.lookup f=some v'/\Q v':=by
 obtain⟨dx,fs,h1,h2,h3⟩:=S
 exact⟨p,C,dx,fs,v,rfl,h1,T.cl,T.na f hf,(h3 f).trans hv,q⟩
theorem TbO.prices{Q:V->Prop}(S:TbO C H p a b s)(T:TbTxt K mg C)(q:Q (.ref s.pr)):∃a C dx fs v',V.ref p=.ref a/\H a=some (.ins C dx fs)/\Cls K C/\NoAttr K C "prices"/\fs.lookup ("prices":Str)=some v'/\Q v' :=
 S.fld (f:="prices") T (by unfold tbN;simp) (by unfold tbL;repeat (first | exact if_pos rfl | rw[if_neg Dk])) q
theorem TbO.inner{Q:V->Prop}(S:TbO C H p a b s)(T:TbTxt K mg C)(q:Q (.ref a.inn)):∃a C dx fs v',V.ref p=.ref a/\H a=some (.ins C dx fs)/\Cls K C/\NoAttr K C "inner"/\fs.lookup ("inner":Str)=some v'/\Q v' :=
 S.fld (f:="inner") T (by unfold tbN;simp) (by unfold tbL;repeat (first | exact if_pos rfl | rw[if_neg Dk])) q
theorem TbO.ones{Q:V->Prop}(S:TbO C H p a b s)(T:TbTxt K mg C)(q:Q (.ref a.on)):∃a C dx fs v',V.ref p=.ref a/\H a=some (.ins C dx fs)/\Cls K C/\NoAttr K C "ones"/\fs.lookup ("ones":Str)=some v'/\Q v' :=
 S.fld (f:="ones") T (by unfold tbN;simp) (by unfold tbL;repeat (first | exact if_pos rfl | rw[if_neg Dk])) q
theorem TbO.outer{Q:V->Prop}(S:TbO C H p a b s)(T:TbTxt K mg C)(q:Q (.ref a.ou)):∃a C dx fs v',V.ref p=.ref a/\H a=some (.ins C dx fs)/\Cls K C/\NoAttr K C "outer"/\fs.lookup ("outer":Str)=some v'/\Q v' :=
 S.fld (f:="outer") T (by unfold tbN;simp) (by unfold tbL;repeat (first | exact if_pos rfl | rw[if_neg Dk])) q
theorem TbO.scale{Q:V->Prop}(S:TbO C H p a b s)(T:TbTxt K mg C)(q:Q (.int (scl b.n b.F s.o))):∃a C dx fs v',V.ref p=.ref a/\H a=some (.ins C dx fs)/\Cls K C/\NoAttr K C "scale"/\fs.lookup ("scale":Str)=some v'/\Q v' :=
 S.fld (f:="scale") T (by unfold tbN;simp) (by unfold tbL;repeat (first | exact if_pos rfl | rw[if_neg Dk])) q
theorem TbO.held{Q:V->Prop}(S:TbO C H p a b s)(T:TbTxt K mg C)(q:Q (.ref a.he)):∃a C dx fs v',V.ref p=.ref a/\H a=some (.ins C dx fs)/\Cls K C/\NoAttr K C "held"/\fs.lookup ("held":Str)=some v'/\Q v' :=
 S.fld (f:="held") T (by unfold tbN;simp) (by unfold tbL;repeat (first | exact if_pos rfl | rw[if_neg Dk])) q
theorem TbO.weights{Q:V->Prop}(S:TbO C H p a b s)(T:TbTxt K mg C)(q:Q (.ref a.we)):∃a C dx fs v',V.ref p=.ref a/\H a=some (.ins C dx fs)/\Cls K C/\NoAttr K C "weights"/\fs.lookup ("weights":Str)=some v'/\Q v' :=
 S.fld (f:="weights") T (by unfold tbN;simp) (by unfold tbL;repeat (first | exact if_pos rfl | rw[if_neg Dk])) q
theorem TbO.leasts{Q:V->Prop}(S:TbO C H p a b s)(T:TbTxt K mg C)(q:Q (.ref a.le)):∃a C dx fs v',V.ref p=.ref a/\H a=some (.ins C dx fs)/\Cls K C/\NoAttr K C "leasts"/\fs.lookup ("leasts":Str)=some v'/\Q v' :=
 S.fld (f:="leasts") T (by unfold tbN;simp) (by unfold tbL;repeat (first | exact if_pos rfl | rw[if_neg Dk])) q
theorem TbO.parts{Q:V->Prop}(S:TbO C H p a b s)(T:TbTxt K mg C)(q:Q (.ref a.pa)):∃a C dx fs v',V.ref p=.ref a/\H a=some (.ins C dx fs)/\Cls K C/\NoAttr K C "parts"/\fs.lookup ("parts":Str)=some v'/\Q v' :=
 S.fld (f:="parts") T (by unfold tbN;simp) (by unfold tbL;repeat (first | exact if_pos rfl | rw[if_neg Dk])) q
theorem TbO.size{Q:V->Prop}(S:TbO C H p a b s)(T:TbTxt K mg C)(q:Q (.int ((b.n:Nat):Int))):∃a C dx fs v',V.ref p=.ref a/\H a=some (.ins C dx fs)/\Cls K C/\NoAttr K C "size"/\fs.lookup ("size":Str)=some v'/\Q v' :=
 S.fld (f:="size") T (by unfold tbN;simp) (by unfold tbL;repeat (first | exact if_pos rfl | rw[if_neg Dk])) q
theorem Tab.prices{Q:V->Prop}(S:Tab K C H0 H p a b s)(T:TbTxt K mg C)(q:Q (.ref s.pr)):∃a C dx fs v',V.ref p=.ref a/\H a=some (.ins C dx fs)/\Cls K C/\NoAttr K C "prices"/\fs.lookup ("prices":Str)=some v'/\Q v':=S.ob.prices T q
theorem Tab.inner{Q:V->Prop}(S:Tab K C H0 H p a b s)(T:TbTxt K mg C)(q:Q (.ref a.inn)):∃a C dx fs v',V.ref p=.ref a/\H a=some (.ins C dx fs)/\Cls K C/\NoAttr K C "inner"/\fs.lookup ("inner":Str)=some v'/\Q v':=S.ob.inner T q
theorem Tab.ones{Q:V->Prop}(S:Tab K C H0 H p a b s)(T:TbTxt K mg C)(q:Q (.ref a.on)):∃a C dx fs v',V.ref p=.ref a/\H a=some (.ins C dx fs)/\Cls K C/\NoAttr K C "ones"/\fs.lookup ("ones":Str)=some v'/\Q v':=S.ob.ones T q
theorem Tab.outer{Q:V->Prop}(S:Tab K C H0 H p a b s)(T:TbTxt K mg C)(q:Q (.ref a.ou)):∃a C dx fs v',V.ref p=.ref a/\H a=some (.ins C dx fs)/\Cls K C/\NoAttr K C "outer"/\fs.lookup ("outer":Str)=some v'/\Q v':=S.ob.outer T q
theorem Tab.scale{Q:V->Prop}(S:Tab K C H0 H p a b s)(T:TbTxt K mg C)(q:Q (.int (scl b.n b.F s.o))):∃a C dx fs v',V.ref p=.ref a/\H a=some (.ins C dx fs)/\Cls K C/\NoAttr K C "scale"/\fs.lookup ("scale":Str)=some v'/\Q v':=S.ob.scale T q
theorem Tab.held{Q:V->Prop}(S:Tab K C H0 H p a b s)(T:TbTxt K mg C)(q:Q (.ref a.he)):∃a C dx fs v',V.ref p=.ref a/\H a=some (.ins C dx fs)/\Cls K C/\NoAttr K C "held"/\fs.lookup ("held":Str)=some v'/\Q v':=S.ob.held T q
theorem Tab.weights{Q:V->Prop}(S:Tab K C H0 H p a b s)(T:TbTxt K mg C)(q:Q (.ref a.we)):∃a C dx fs v',V.ref p=.ref a/\H a=some (.ins C dx fs)/\Cls K C/\NoAttr K C "weights"/\fs.lookup ("weights":Str)=some v'/\Q v':=S.ob.weights T q
theorem Tab.leasts{Q:V->Prop}(S:Tab K C H0 H p a b s)(T:TbTxt K mg C)(q:Q (.ref a.le)):∃a C dx fs v',V.ref p=.ref a/\H a=some (.ins C dx fs)/\Cls K C/\NoAttr K C "leasts"/\fs.lookup ("leasts":Str)=some v'/\Q v':=S.ob.leasts T q
theorem Tab.parts{Q:V->Prop}(S:Tab K C H0 H p a b s)(T:TbTxt K mg C)(q:Q (.ref a.pa)):∃a C dx fs v',V.ref p=.ref a/\H a=some (.ins C dx fs)/\Cls K C/\NoAttr K C "parts"/\fs.lookup ("parts":Str)=some v'/\Q v':=S.ob.parts T q
theorem Tab.size{Q:V->Prop}(S:Tab K C H0 H p a b s)(T:TbTxt K mg C)(q:Q (.int ((b.n:Nat):Int))):∃a C dx fs v',V.ref p=.ref a/\H a=some (.ins C dx fs)/\Cls K C/\NoAttr K C "size"/\fs.lookup ("size":Str)=some v'/\Q v':=S.ob.size T q
theorem tbL_no{n:Nat}{pr:Addr}{wk sc:Int}{x:Str}(h:x∉tbN):tbL a n pr wk sc x=none:=by
 unfold tbN at h
 simp only[kQ,jZb,or_false,not_or]at h
 obtain⟨h1,h2,h3,h4,h5,h6,h7,h8,h9,h10,h11⟩:=h
 unfold tbL
 rw[if_neg h11,if_neg h10,if_neg h9,if_neg h8,if_neg h7,if_neg h6,if_neg h5,if_neg h4,if_neg h3,if_neg h2,if_neg h1]
theorem TbO.mt{nm:Str}{q:Prop}(S:TbO C H p a b s)(h:q)(hn:nm∉tbN:=by decide +kernel):∃a dx fs,V.ref p=.ref a/\H a=some (.ins C dx fs)/\fs.lookup nm=none/\q:=by
 obtain⟨dx,fs,h1,h2,h3⟩:=S
 exact⟨p,dx,fs,rfl,h1,(h3 nm).trans (tbL_no hn),h⟩
theorem Tab.mt{nm:Str}{q:Prop}(S:Tab K C H0 H p a b s)(h:q)(hn:nm∉tbN:=by decide +kernel):∃a dx fs,V.ref p=.ref a/\H a=some (.ins C dx fs)/\fs.lookup nm=none/\q:=S.ob.mt h hn
theorem IlA.same{x:Addr}{n:Nat}{f:Nat->Int}(h:IlA H x n f)(e:Same H H'):IlA H' x n f:=e _ _ h
theorem Tab.same(S:Tab K C H0 H p a b s)(e:Same H H'):Tab K C H0 H' p a b s:=by
 obtain⟨⟨dx,fs,h1,h2,h3⟩,ok,ro,ba,ou,on,inn,lns,pr,l0,l1,nd,f0,jn,jm,st⟩:=S
 exact⟨⟨dx,fs,e _ _ h1,h2,h3⟩,ok,ro,ba.trans e,e _ _ ou,e _ _ on,e _ _ inn,fun j hj=>e _ _ (lns j hj),e _ _ pr,e _ _ l0,e _ _ l1,nd,f0,jn,jm,st⟩
theorem rgl{N k:Nat}{g:Nat->V}(h:k<N):((List.range N).map g)[k]?=some (g k):=by rw[jJ,jXa h];rfl
theorem rset{N k:Nat}{g:Nat->V}{v:V}:((List.range N).map g).set k v=(List.range N).map (fun d=>if d=k then v else g d):=by
 refine kYe (by simp) fun i h1 h2=>?_
 rw[List.getElem_set]
 by_cases e:k=i
 .subst e;simp
 .rw[if_neg e]
  simp[show ¬i=k from fun z=>e z.symm]
theorem rat{N k:Nat}{g:Nat->V}(h:k<N):atI ((List.range N).map g) ((k:Nat):Int)=some (g k):=Zw (rgl h)
theorem rix{N k:Nat}{g:Nat->V}(h:k<N):ixN ((List.range N).map g).length ((k:Nat):Int)=some k:=by
 unfold ixN
 rw[jQ,jV,if_pos Om,if_pos Om,zK]
theorem rlast{n:Nat}{g:Nat->V}:atI ((List.range (n+1)).map g) (-1)=some (g n):=by
 rw[jJb,yK]
 exact Qfv _ _
theorem rixl{n:Nat}{g:Nat->V}:ixN ((List.range (n+1)).map g).length (-1)=some n:=by
 unfold ixN
 rw[jQ,jV,if_neg Dc,if_pos Om]
 congr 1
 lia
section
variable{Q:V->Prop}{n k:Nat}{x:Addr}{L:Nat->Int}{v:Int}{g:Nat->V}
theorem ixR(h:H x=some (.lst ((List.range n).map g)))(hk:k<n)(q:Q (g k)):∃p xs i u,V.ref x=.ref p/\V.int ((k:Nat):Int)=.int i/\SqL K H p xs/\atI xs i=some u/\Q u:=⟨x,_,_,_,rfl,rfl,Qh h,rat hk,q⟩
theorem Jj(hk:k<n):LnF n L v k=L k:=if_pos hk
theorem Ju:LnF n L v n=v:=if_neg (wW n)
theorem LnA.ix(h:LnA H x n L v)(hk:k<n)(q:Q (.int (L k))):∃p xs i u,V.ref x=.ref p/\V.int ((k:Nat):Int)=.int i/\SqL K H p xs/\atI xs i=some u/\Q u:=ixR h Om (by rw[Jj hk];exact q)
theorem LnA.last(h:LnA H x n L v)(q:Q (.int v)):∃p xs i u,V.ref x=.ref p/\V.int (-1)=.int i/\SqL K H p xs/\atI xs i=some u/\Q u:=⟨x,_,_,_,rfl,rfl,Qh h,rlast,by rw[Ju];exact q⟩
theorem valV_js:∀{js:List Nat} {ad:Nat->Addr} {j:Nat},valV (js.map fun j=>((Sum.inl ((j:Nat):Int):Key),V.ref (ad j))) (Sum.inl ((j:Nat):Int))=if j∈js then some (.ref (ad j))else none
 |[],_,_=>rfl
 |i::js,ad,j=>by
  have ih:=valV_js (js:=js) (ad:=ad) (j:=j)
  unfold valV at ih⊢
  rw[yX,jKb]
  by_cases c:i=j
  .subst c
   rw[kW rfl,if_pos (yV ..)]
   rfl
  .rw[jQe (fun z=>c (by have:=Sum.inl.inj z;lia))]
   show Option.map _ _=_
   rw[ih]
   by_cases d:j∈js
   .rw[if_pos d,if_pos (yZ _ d)]
   .rw[if_neg d,if_neg (fun z=>by rcases kQ.mp z with y | y;exact c y.symm;exact d y)]
theorem Tab.ing(S:Tab K C H0 H p a b s){j:Nat}(hj:j∈s.js)(q:Q (.ref (s.ad j))):∃d v,V.ref a.inn=.ref d/\DGet H d (.int ((j:Nat):Int)) (some v)/\Q v:=⟨a.inn,_,rfl,.inl ⟨_,Sum.inl ((j:Nat):Int),.inl S.inn,rfl,(valV_js.trans (if_pos hj)).symm⟩,q⟩
theorem Tab.oix(S:Tab K C H0 H p a b s)(hk:k<b.n)(q:Q (.int ((s.o k:Nat):Int))):∃p xs i u,V.ref a.ou=.ref p/\V.int ((k:Nat):Int)=.int i/\SqL K H p xs/\atI xs i=some u/\Q u:=ixR S.ou hk q
theorem Tab.nix(S:Tab K C H0 H p a b s)(hk:k<b.n)(q:Q (.bl (s.one k))):∃p xs i u,V.ref a.on=.ref p/\V.int ((k:Nat):Int)=.int i/\SqL K H p xs/\atI xs i=some u/\Q u:=ixR S.on hk q
theorem Tab.heE(S:Tab K C H0 H p a b s):H a.he=some (.dK []):=S.ba _ _ S.ro.he
end
end
theorem repR(m:Nat)(c:V):(List.replicate m [c]).flatten=(List.range m).map fun _=>c:=by
 induction m with
 |zero=>rfl
 |succ m ih=>rw[jYf,kQf,ih,List.range_succ_eq_map,yX,xW];rfl
theorem IlA.set{H:Hp}{g:Addr}{n:Nat}{f:Nat->Int}{k:Nat}{x:Int}:IlA (upd H g (.lst (((List.range n).map fun k=>V.int (f k)).set k (.int x)))) g n (fun j=>if j=k then x else f j):=by
 unfold IlA
 rw[Qc,rset]
 congr 2
 refine xZ fun d _=>?_
 show(if d=k then V.int x else V.int (f d))=V.int (if d=k then x else f d)
 by_cases c:d=k
 .rw[if_pos c,if_pos c]
 .rw[if_neg c,if_neg c]
theorem IlA.congr{H:Hp}{g:Addr}{n:Nat}{f f':Nat->Int}(h:IlA H g n f)(e:∀k,k<n->f k=f' k):IlA H g n f':=by
 unfold IlA at *
 rw[h]
 congr 2
 exact xZ fun d hd=>by rw[e d (xX.mp hd)]
def wo(H:Hp)(P:Addr):Hp:=fun c=>if c=P then none else H c
theorem Qfc{H:Hp}{P c:Addr}(h:c≠P):wo H P c=H c:=if_neg h
theorem Vh{H H2:Hp}{P c:Addr}{o:HO}(s:Same (wo H P) H2)(ne:c≠P)(h:H c=some o):H2 c=some o:=s _ _ (by rw[Qfc ne];exact h)
theorem Qgg{H:Hp}{P:Addr}{o:HO}:Same (wo H P) (upd H P o):=fun c u e=>by
 by_cases z:c=P
 .rw[z]at e;unfold wo at e;rw[if_pos rfl]at e;cases e
 .rw[Qj z];rw[Qfc z]at e;exact e
theorem Qkq{H H2:Hp}{P:Addr}{o:HO}(hP:H P=some o)(s:Same (wo H P) H2):Same H (upd H2 P o):=fun c u e=>by
 by_cases z:c=P
 .rw[z,Qc];rw[z,hP]at e;exact e
 .rw[Qj z];exact Vh s z e
theorem cm1{i j:Int}(h:-1<=i/\i<=1):CMul i j:=.inl ⟨Om,Om⟩
theorem cm2{i j:Int}(h:-1<=j/\j<=1):CMul i j:=.inr ⟨Om,Om⟩
theorem cmB{i j:Int}(h:In18 i):CMul i j:=by unfold In18 B18 at h;exact .inl ⟨Om,Om⟩
def et0(side:Int):Int:=if side=-1 then 1 else 0
abbrev sEnd:Stmt:=inClass (top 18) 8
inductive Qkr(K:Fg)(C:Addr)(vs:List V)(H:Hp)(Q:VK)(E:XK):Prop|mk(H0:Hp)(p:Addr)(a:TbA)(b:Pb)(z:TbS)(c:Nat)(side:Int)(_:vs=[.ref p,.int c,.int side])(_:Tab K C H0 H p a b z)(_:Q (.int (et0 side*scl b.n b.F z.o)) H):Qkr K C vs H Q E
section
variable{P:Program}{w:World}{K:Fg}{mg:Str->Option Value}{base:Heap}
theorem scEnd:FnScope ["self","choice","side"] ["self","choice","side"] (Qg sEnd):=⟨rfl,rfl,rfl,Dk,rfl,Dk,Dk⟩
theorem okEnd{f C:Addr}{fd:FuncData}(F:Fun K "end" "Tableau.end" sEnd f fd)(M:Mg mg)(T:TbTxt K mg C):FnOk P w K mg base CX0 1 f fd ["self","choice","side"] (Qkr K C):=by
 refine F.ok scEnd (fun vs H Q E h=>?_) (fun cdv A outer s H vs Q E hr h=>?_)
 .obtain⟨H0,p,a,b,z,c,side,rfl,_⟩:=h
  rfl
 obtain⟨H0,p,a,b,z,c,side,rfl,S,q⟩:=h
 have hu:(A.deeper (PyProof.Rows.envOfC "Tableau.end" (Qg sEnd) s.heap.objs.size f cdv)).units+1<cLine:=zQ (zZ Dc _) hr.un
 refine⟨_,(Qi (Qs (Qn Xu (Qnk hu (Qq (pv 0) rfl) (pv 1) (Zq (Qr Zf (pv 2) (Ze Ya Qf) (Qt _)) Qf Qf) ⟨rfl,rfl,rfl,rfl⟩) (Qq (pv 0) rfl)))),?_⟩
 refine⟨_,rfl,S.held T ⟨a.he,rfl,.inl ⟨[],.inl S.heE⟩,_,rfl,_,rfl,_,rfl,rfl,_,rfl,ite2 (fun e=>?_) (fun e=>?_)⟩⟩
 .have e':side=-1:=by have:=kK e;injection this
  unfold et0 at q
  rw[if_pos e']at q
  exact⟨none,.inl ⟨[],Sum.inl ((c:Nat):Int),.inl S.heE,rfl,rfl⟩,_,rfl,S.scale T ⟨_,_,rfl,rfl,cm1 Dc,q⟩⟩
 .have e':¬side=-1:=fun y=>e (kW (by rw[y]))
  unfold et0 at q
  rw[if_neg e']at q
  exact⟨none,.inl ⟨[],Sum.inl ((c:Nat):Int),.inl S.heE,rfl,rfl⟩,_,rfl,S.scale T ⟨_,_,rfl,rfl,cm1 Dc,q⟩⟩
def clk(v s:Int):Int:=if v-et0 (-1)*s > et0 1*s-v then v-et0 (-1)*s else et0 1*s-v
abbrev sChL:Stmt:=inClass (top 18) 9
inductive spChL(K:Fg)(C:Addr)(vs:List V)(H:Hp)(Q:VK)(E:XK):Prop|mk(H0:Hp)(p:Addr)(a:TbA)(b:Pb)(z:TbS)(j:Nat)(_:vs=[.ref p,.int j])(_:Tab K C H0 H p a b z)(_:j∈z.js)(_:Q (.int (clk (Vo b.n b.F b.lo z.o z.one (b.F j)) (scl b.n b.F z.o))) H):spChL K C vs H Q E
theorem scChL:FnScope ["self","choice","worth"] ["self","choice"] (Qg sChL):=⟨rfl,rfl,rfl,Dk,rfl,Dk,Dk⟩
theorem okChL{f C:Addr}{fd:FuncData}(F:Fun K "choice_lack" "Tableau.choice_lack" sChL f fd)(M:Mg mg)(T:TbTxt K mg C){f_end:Addr}{fd_end:FuncData}(G_end:FnOk P w K mg base CX0 1 f_end fd_end ["self","choice","side"] (Qkr K C))(b_end:Binds K fd_end ["self","choice","side"] [])(m_end:Meth K C "end" f_end):FnOk P w K mg base CX0 2 f fd ["self","choice"] (spChL K C):=by
 refine F.ok scChL (fun vs H Q E h=>?_) (fun cdv A outer s H vs Q E hr h=>?_)
 .obtain⟨H0,p,a,b,z,j,rfl,_⟩:=h
  rfl
 obtain⟨H0,p,a,b,z,j,rfl,S,hj,q⟩:=h
 have hu:(A.deeper (PyProof.Rows.envOfC "Tableau.choice_lack" (Qg sChL) s.heap.objs.size f cdv)).units+1<cLine:=zQ (zZ Dc _) hr.un
 refine⟨_,(Qb (Qp (i:=2) scChL.nd rfl (Or.inl rfl) (Qo Qw (Jp hu (Qq (pv 0) rfl) (pv 1) (fun _ _=>rfl)) (Ze Ya Qf) (fun _ _=>rfl)))
  (Qi (Qs (Ql (Kw rfl) rfl M.max Qdl (Qa (Qn Xs (Xf (pv 0) T.cl m_end G_end (hr.mono Dc) b_end .nil Yq (Qa (pv 1) (Qa Qf Qe))) (pv 2)) (Qa (Qn Xs (pv 2) (Xf (pv 0) T.cl m_end G_end (hr.mono Dc) b_end .nil Yq (Qa (pv 1) (Qa (Ze Ya Qf) Qe)))) Qe)))))),?_⟩
 refine⟨_,rfl,S.inner T ⟨_,rfl,S.ing hj ⟨_,rfl,(S.lns j hj).last ?_⟩⟩⟩
 exact⟨_,rfl,S.mt ⟨_,rfl,H0,p,a,b,z,j,1,rfl,S,_,rfl,_,_,rfl,rfl,_,rfl,_,rfl,S.mt ⟨_,rfl,_,rfl,H0,p,a,b,z,j,-1,rfl,S,_,_,rfl,rfl,_,_,rfl,q⟩⟩⟩
abbrev sSid:Stmt:=inClass (top 18) 13
inductive spSid(K:Fg)(C:Addr)(vs:List V)(H:Hp)(Q:VK)(E:XK):Prop|mk(H0:Hp)(p:Addr)(a:TbA)(b:Pb)(z:TbS)(t:Nat)(_:vs=[.ref p,.int t])(_:Tab K C H0 H p a b z)(_:(t<b.n->t∈z.js))(_:Q (.int (if t<b.n/\Vo b.n b.F b.lo z.o z.one (b.F t) > et0 (-1)*scl b.n b.F z.o then -1 else 1)) H):spSid K C vs H Q E
theorem scSid:FnScope ["self","thing"] ["self","thing"] (Qg sSid):=⟨rfl,rfl,rfl,Dk,rfl,Dk,Dk⟩
theorem okSid{f C:Addr}{fd:FuncData}(F:Fun K "side" "Tableau.side" sSid f fd)(M:Mg mg)(T:TbTxt K mg C){f_end:Addr}{fd_end:FuncData}(G_end:FnOk P w K mg base CX0 1 f_end fd_end ["self","choice","side"] (Qkr K C))(b_end:Binds K fd_end ["self","choice","side"] [])(m_end:Meth K C "end" f_end):FnOk P w K mg base CX0 2 f fd ["self","thing"] (spSid K C):=by
 refine F.ok scSid (fun vs H Q E h=>?_) (fun cdv A outer s H vs Q E hr h=>?_)
 .obtain⟨H0,p,a,b,z,t,rfl,_⟩:=h
  rfl
 obtain⟨H0,p,a,b,z,t,rfl,S,hj,q⟩:=h
 have hu:(A.deeper (PyProof.Rows.envOfC "Tableau.side" (Qg sSid) s.heap.objs.size f cdv)).units+1<cLine:=zQ (zZ Dc _) hr.un
 refine⟨_,(Qi (Qs (Zq (PW.pt (Yn (Qr Jo (pv 1) (Qq (pv 0) rfl) (Qt _)) (Zb (Qr Wk (Qo Qw (Jp hu (Qq (pv 0) rfl) (pv 1) (fun _ _=>rfl)) (Ze Ya Qf) (fun _ _=>rfl)) (Xf (pv 0) T.cl m_end G_end (hr.mono Dc) b_end .nil Yq (Qa (pv 1) (Qa (Ze Ya Qf) Qe))) (Qt _))))) (Ze Ya Qf) Qf))),?_⟩
 refine⟨_,rfl,_,rfl,S.size T ⟨_,_,rfl,rfl,_,rfl,ite2 (fun e=>?_) (fun e=>?_)⟩⟩
 .have e':t<b.n:=by have:=kK e;lia
  refine⟨_,rfl,S.inner T ⟨_,rfl,S.ing (hj e') ⟨_,rfl,(S.lns t (hj e')).last ?_⟩⟩⟩
  refine⟨_,rfl,S.mt ⟨_,rfl,_,rfl,H0,p,a,b,z,t,-1,rfl,S,_,_,rfl,rfl,_,rfl,ite2 (fun y=>?_) (fun y=>?_)⟩⟩
  .rw[if_pos ⟨e',kK y⟩]at q
   exact⟨_,rfl,q⟩
  .rw[if_neg fun x=>y (kW x.2)]at q
   exact q
 .rw[if_neg fun x=>e (kW (by have:=x.1;lia))]at q
  exact ite2 (fun z=>nomatch z) fun _=>q
abbrev sHlp:Stmt:=inClass (top 18) 15
inductive spHlp(K:Fg)(C:Addr)(vs:List V)(H:Hp)(Q:VK)(E:XK):Prop|mk(H0:Hp)(p:Addr)(a:TbA)(b:Pb)(z:TbS)(x:Int)(k:Nat)(side:Int)(_:vs=[.ref p,.int x,.int k,.int side])(_:Tab K C H0 H p a b z)(_:k<b.n)(_:(side=1\/side=-1))(_:∀c:Bool,(c=true↔0<sx z.one k*x*side)->Q (.bl c) H):spHlp K C vs H Q E
theorem scHlp:FnScope ["self","number","column","side"] ["self","number","column","side"] (Qg sHlp):=⟨rfl,rfl,rfl,Dk,rfl,Dk,Dk⟩
theorem okHlp{f C:Addr}{fd:FuncData}(F:Fun K "helps" "Tableau.helps" sHlp f fd)(M:Mg mg)(T:TbTxt K mg C):FnOk P w K mg base CX0 1 f fd ["self","number","column","side"] (spHlp K C):=by
 refine F.ok scHlp (fun vs H Q E h=>?_) (fun cdv A outer s H vs Q E hr h=>?_)
 .obtain⟨H0,p,a,b,z,x,k,side,rfl,_⟩:=h
  rfl
 obtain⟨H0,p,a,b,z,x,k,side,rfl,S,hk,hs,q⟩:=h
 have hu:(A.deeper (PyProof.Rows.envOfC "Tableau.helps" (Qg sHlp) s.heap.objs.size f cdv)).units+1<cLine:=zQ (zZ Dc _) hr.un
 refine⟨_,(Qb (Xi (Qiv (Qpt hu (Qo Qw (Qq (pv 0) rfl) (pv 2) (fun _ _=>rfl)) (Qq (pv 0) rfl))) (Qi (Qs Km)) Qv)
  (Qb (Xi (Xj (Qo Qw (Qq (pv 0) rfl) (pv 2) (fun _ _=>rfl))) (Qi (Qs (Yj Jo (Qn Xu (pv 1) (pv 3)) Qf (Qt _)))) Qv)
  (Qi (Qs (Yj Wk (Qn Xu (pv 1) (pv 3)) Qf (Qt _)))))),?_⟩
 refine⟨_,rfl,S.outer T ⟨_,rfl,S.oix hk ⟨_,rfl,S.held T ⟨a.he,none,rfl,.inl ⟨[],Sum.inl ((z.o k:Nat):Int),.inl S.heE,rfl,rfl⟩,_,rfl,ite2 (fun y=>nomatch y) fun _=>?_⟩⟩⟩⟩
 have cm:CMul x side:=cm2 Om
 refine⟨_,rfl,S.ones T ⟨_,rfl,S.nix hk ⟨_,rfl,ite2 (fun e=>?_) (fun e=>?_)⟩⟩⟩
 .refine⟨_,rfl,_,rfl,_,_,rfl,rfl,cm,_,_,rfl,rfl,q _ ?_⟩
  rw[decide_eq_true_iff]
  unfold sx
  rw[if_pos e,kXf,jQa,kXf]
  lia
 .refine⟨_,rfl,_,rfl,_,_,rfl,rfl,cm,_,_,rfl,rfl,q _ ?_⟩
  rw[decide_eq_true_iff]
  unfold sx
  rw[if_neg e,jQa]
abbrev sTLi:Stmt:=inClass (top 18) 20
inductive spTLi(K:Fg)(C:Addr)(vs:List V)(H:Hp)(Q:VK)(E:XK):Prop|mk(H0:Hp)(p:Addr)(a:TbA)(b:Pb)(z:TbS)(x:Addr)(L:Nat->Int)(v:Int)(k:Nat)(_:vs=[.ref p,.ref x,.int k])(_:Tab K C H0 H p a b z)(_:k<b.n)(_:LnA H x b.n L v)(_:∀c:Bool,(c=true↔z.o k<b.n/\ab (L k)<ab v)->Q (.bl c) H):spTLi K C vs H Q E
theorem scTLi:FnScope ["self","line","column"] ["self","line","column"] (Qg sTLi):=⟨rfl,rfl,rfl,Dk,rfl,Dk,Dk⟩
theorem okTLi{f C:Addr}{fd:FuncData}(F:Fun K "is_too_little" "Tableau.is_too_little" sTLi f fd)(M:Mg mg)(T:TbTxt K mg C):FnOk P w K mg base CX0 1 f fd ["self","line","column"] (spTLi K C):=by
 refine F.ok scTLi (fun vs H Q E h=>?_) (fun cdv A outer s H vs Q E hr h=>?_)
 .obtain⟨H0,p,a,b,z,x,L,v,k,rfl,_⟩:=h
  rfl
 obtain⟨H0,p,a,b,z,x,L,v,k,rfl,S,hk,hL,q⟩:=h
 refine⟨_,(Qi (Qs (Qaq (Yj Jo (Qo Qw (Qq (pv 0) rfl) (pv 2) (fun _ _=>rfl)) (Qq (pv 0) rfl) (Qt _)) (Qcw (Yj Jo (Ql Zl rfl M.abs Kj (Qa (Qo Qw (pv 1) (pv 2) (fun _ _=>rfl)) Qe)) (Ql Zl rfl M.abs Kj (Qa (Qo Qw (pv 1) (Ze Ya Qf) (fun _ _=>rfl)) Qe)) (Qt _)))))),?_⟩
 refine⟨_,rfl,S.outer T ⟨_,rfl,S.oix hk ⟨_,rfl,S.size T ⟨_,_,rfl,rfl,_,rfl,ite2 (fun e=>?_) (fun e=>?_)⟩⟩⟩⟩
 .have e':z.o k<b.n:=by have:=kK e;lia
  refine⟨_,rfl,_,rfl,hL.ix hk ⟨_,rfl,_,rfl,_,rfl,hL.last ⟨_,rfl,_,_,rfl,rfl,q _ ?_⟩⟩⟩
  rw[decide_eq_true_iff]
  exact⟨fun y=>⟨e',y⟩,fun y=>y.2⟩
 .refine q _ ⟨fun y=>(nomatch y),fun(y:z.o k<b.n/\_)=>absurd (kW (by have:=y.1;lia)) e⟩
abbrev sOvr:Stmt:=inClass (top 18) 4
inductive spOvr(K:Fg)(C:Addr)(vs:List V)(H:Hp)(Q:VK)(E:XK):Prop|mk(H0:Hp)(p:Addr)(a:TbA)(b:Pb)(z:TbS)(_:vs=[.ref p,.non,.non])(_:Tab K C H0 H p a b z)(_:Q (.bl false) H):spOvr K C vs H Q E
theorem scOvr:FnScope ["self","limit","patience"] ["self","limit","patience"] (Qg sOvr):=⟨rfl,rfl,rfl,Dk,rfl,Dk,Dk⟩
theorem okOvr{f C:Addr}{fd:FuncData}(F:Fun K "is_over" "Tableau.is_over" sOvr f fd)(M:Mg mg)(T:TbTxt K mg C):FnOk P w K mg base CX0 1 f fd ["self","limit","patience"] (spOvr K C):=by
 refine F.ok scOvr (fun vs H Q E h=>?_) (fun cdv A outer s H vs Q E hr h=>?_)
 .obtain⟨H0,p,a,b,z,rfl,_⟩:=h
  rfl
 obtain⟨H0,p,a,b,z,rfl,S,q⟩:=h
 refine⟨_,(Qb (Xi (PW.pt (Yn (Qr Wm (pv 1) Ye (Qt _)) (Zb (Qr Wk (Qo Qu (Qo Qw (Qq (pv 0) rfl) Qf (fun _ _=>rfl)) (Ze Ya Qf) (fun _ _=>rfl)) (Qn Xu (pv 1) (Qq (pv 0) rfl)) (Qt _))))) (Qi (Qs Km)) Qv)
  (Qi (Qs (Qaq (Yj Wm (pv 2) Ye (Qt _)) (Qcw (Yj Wk (Qq (pv 0) rfl) (pv 2) (Qt _))))))),?_⟩
 exact⟨_,rfl,rfl,false,rfl,ite2 (fun y=>nomatch y) fun _=>ite2 (fun y=>nomatch y) fun _=>⟨_,rfl,rfl,false,rfl,ite2 (fun y=>nomatch y) fun _=>q⟩⟩
def nrL(b:Pb)(z:TbS)(L:Nat->Int)(k c:Nat):Prop :=
 pq b.n b.F z.o z.one b.cA k*ab (L c)<pq b.n b.F z.o z.one b.cA c*ab (L k)\/(pq b.n b.F z.o z.one b.cA k*ab (L c)=pq b.n b.F z.o z.one b.cA c*ab (L k) /\
 (pq b.n b.F z.o z.one unl k*ab (L c)<pq b.n b.F z.o z.one unl c*ab (L k)\/(pq b.n b.F z.o z.one unl k*ab (L c)=pq b.n b.F z.o z.one unl c*ab (L k)/\z.o k<z.o c)))
theorem Tab.prL{K:Fg}{C:Addr}{H0 H:Hp}{p:Addr}{a:TbA}{b:Pb}{z:TbS}(S:Tab K C H0 H p a b z){i:Nat}{v:V}(h:([.ref z.p0,.ref z.p1]:List V)[i]?=some v):∃x g,v=.ref x/\(∀j,In18 (g j))/\LnA H x b.n (Ln b.n b.F z.o g) (Vo b.n b.F b.lo z.o z.one g)/\((i=0/\g=b.cA)\/(i=1/\g=unl)):=by
 match i,h with
 |0,h=>exact⟨z.p0,b.cA,(Option.some.inj h).symm,S.ok.cA,S.l0,.inl ⟨rfl,rfl⟩⟩
 |1,h=>exact⟨z.p1,unl,(Option.some.inj h).symm,unl18,S.l1,.inr ⟨rfl,rfl⟩⟩
 |i+2,h=>exact nomatch h
theorem Qpv{x:Int}(h:-Cx<=x/\x<=Cx):Big x:=Ji (by have:=cxy;lia)
theorem Qpw{x:Int}(h:-Cx<=x/\x<=Cx):Big (if x<0 then -x else x):=Qpv (by split<;>lia)
theorem pq_18{b:Pb}(h:b.Ok){o:Nat->Nat}{one:Nat->Bool}{g:Nat->Int}(hg:∀j,In18 (g j))(k:Nat):-Cx<=pq b.n b.F o one g k/\pq b.n b.F o one g k<=Cx:=by
 have:=Qcj h (o:=o) hg k
 unfold pq sx
 split<;>lia
theorem Qck{t:TE}{σ:St}{H:Hp}{Q:VK}(v:V)(H1:Hp)(ht:∀Q':VK,Q' v H1->t σ H Q')(q:Q v H1):t σ H Q:=ht Q q
theorem Qcl{t1 t2:TS}{D:Ends}{i:Nat}{x:V}{σ:St}{H:Hp}(h:t1 { D with nx:=t2 D } (σ.set i (some x)) H):Qbj i x σ H ({ D with nx:=tSeq t1 t2 D }:Ends).nx:=h
theorem Qcm{t1 t2:TS}{D:Ends}{σ:St}{H:Hp}(Pv:St->Hp->Prop)(h2:∀σ' H',Pv σ' H'->t2 D σ' H')(h1:(∀σ' H',Pv σ' H'->t2 D σ' H')->t1 { D with nx:=t2 D } σ H):tSeq t1 t2 D σ H:=h1 h2
theorem Wb{t1 t2:TS}{D:Ends}{i:Nat}{x:V}{σ:St}{H:Hp}(Pv:St->Hp->Prop)(h2:∀σ' H',Pv σ' H'->t2 D σ' H')(h1:(∀σ' H',Pv σ' H'->t2 D σ' H')->t1 { D with nx:=t2 D } (σ.set i (some x)) H):Qbj i x σ H ({ D with nx:=tSeq t1 t2 D }:Ends).nx:=h1 h2
theorem ab_eq{x:Int}:(if x<0 then -x else x)=ab x:=rfl
abbrev sIdl:Stmt:=inClass (top 18) 21
inductive spIdl(K:Fg)(C:Addr)(vs:List V)(H:Hp)(Q:VK)(E:XK):Prop|mk(H0:Hp)(p:Addr)(a:TbA)(b:Pb)(z:TbS)(k:Nat)(_:vs=[.ref p,.int k])(_:Tab K C H0 H p a b z)(_:k<b.n)(_:∀(c:Bool) (H':Hp),Same H H'->(c=true↔Ln b.n b.F z.o b.cA k=0/\Ln b.n b.F z.o unl k=0)->Q (.bl c) H'):spIdl K C vs H Q E
theorem scIdl:FnScope ["self","column"] ["self","column"] (Qg sIdl):=⟨rfl,rfl,rfl,Dk,rfl,Dk,Dk⟩
theorem okIdl{f C:Addr}{fd:FuncData}(F:Fun K "is_idle" "Tableau.is_idle" sIdl f fd)(M:Mg mg)(T:TbTxt K mg C):FnOk P w K mg base CX0 1 f fd ["self","column"] (spIdl K C):=by
 refine F.ok scIdl (fun vs H Q E h=>?_) (fun cdv A outer s H vs Q E hr h=>?_)
 .obtain⟨H0,p,a,b,z,k,rfl,_⟩:=h
  rfl
 obtain⟨H0,p,a,b,z,k,rfl,S,hk,q⟩:=h
 refine⟨_,(Qi (Qs (Ql (Ky rfl) rfl M.all Qga (Qa (Zm ["prices","column"] [none,some 1] rfl (Xn (Qq (pv 0) rfl)) (fun _ _ _=>(Qx (i:=0) (show(["prices","column"]:List Str).Nodup by decide +kernel) rfl (Or.inl rfl) (Or.inr rfl))) (fun _ _ _=>Xy) (fun _ _ _=>(Yj Zf (Qo (Zr (K:=K) rfl) (pv 0) (pv 1) (fun _ _=>rfl)) Qf (Qt _)))) Qe)))),?_⟩
 refine⟨_,rfl,S.prices T ⟨z.pr,rfl,⟨_,Qh S.pr⟩,fun D hD=>?_⟩⟩
 refine Zi (α:=Bool) (xs:=[false,true]) (val:=fun c=>.ref (if c then z.p1 else z.p0)) V.bl (fun c=>decide (Ln b.n b.F z.o (if c then unl else b.cA) k=0)) rfl (Zn (Qh S.pr)) (by show 2<sizeLine;decide) hD (fun c hc H1 s1 P h=>?_) fun H1 s1 h1=>?_
 .have S1:=S.same s1
  cases c with
  |false=>exact⟨_,rfl,_,rfl,S1.l0.ix hk ⟨rfl,by rw[show decide (V.int (Ln b.n b.F z.o b.cA k)=V.int 0)=decide (Ln b.n b.F z.o b.cA k=0)from decide_eq_decide.mpr ⟨fun z=>V.int.inj z,fun z=>by rw[z]⟩];exact h H1 fun _ _ z=>z⟩⟩
  |true=>exact⟨_,rfl,_,rfl,S1.l1.ix hk ⟨rfl,by rw[show decide (V.int (Ln b.n b.F z.o unl k)=V.int 0)=decide (Ln b.n b.F z.o unl k=0)from decide_eq_decide.mpr ⟨fun z=>V.int.inj z,fun z=>by rw[z]⟩];exact h H1 fun _ _ z=>z⟩⟩
 .refine⟨D,_,rfl,Qh h1,q _ _ s1 ?_⟩
  simp
abbrev sNrr:Stmt:=inClass (top 18) 16
inductive spNrr(K:Fg)(C:Addr)(vs:List V)(H:Hp)(Q:VK)(E:XK):Prop|mk(H0:Hp)(p:Addr)(a:TbA)(b:Pb)(z:TbS)(x:Addr)(L:Nat->Int)(v:Int)(k c:Nat)(_:vs=[.ref p,.ref x,.int k,.int c])(_:Tab K C H0 H p a b z)(_:k<b.n)(_:c<b.n)(_:LnA H x b.n L v)(_:(∀i,-Cx<=L i/\L i<=Cx))(_:∀r:Bool,(r=true↔nrL b z L k c)->Q (.bl r) H):spNrr K C vs H Q E
theorem scNrr:FnScope ["self","line","column","other","prices","one","two"] ["self","line","column","other"] (Qg sNrr):=⟨rfl,rfl,rfl,Dk,rfl,Dk,Dk⟩
theorem okNrr{f C:Addr}{fd:FuncData}(F:Fun K "nearer" "Tableau.nearer" sNrr f fd)(M:Mg mg)(T:TbTxt K mg C):FnOk P w K mg base CX0 1 f fd ["self","line","column","other"] (spNrr K C):=by
 refine F.ok scNrr (fun vs H Q E h=>?_) (fun cdv A outer s H vs Q E hr h=>?_)
 .obtain⟨H0,p,a,b,z,x,L,v,k,c,rfl,_⟩:=h
  rfl
 obtain⟨H0,p,a,b,z,x,L,v,k,c,rfl,S,hk,hc,hL,hB,q⟩:=h
 refine⟨_,(Qb (Yf PassesOwn.never rfl (Xn (Qq (pv 0) rfl)) (Qx (i:=4) scNrr.nd rfl (Or.inl rfl) (Or.inl rfl)) (Qb (Qp (i:=5) scNrr.nd rfl (Or.inl rfl) (Qn Wy (Zq (Xj (Qo Qw (Qq (pv 0) rfl) (pv 2) (fun _ _=>rfl))) (Ze Ya (Qo Qw (pv 4) (pv 2) (fun _ _=>rfl))) (Qo Qw (pv 4) (pv 2) (fun _ _=>rfl))) (Ql Zl rfl M.abs Kj (Qa (Qo Qw (pv 1) (pv 3) (fun _ _=>rfl)) Qe))))
  (Qb (Qp (i:=6) scNrr.nd rfl (Or.inl rfl) (Qn Wy (Zq (Xj (Qo Qw (Qq (pv 0) rfl) (pv 3) (fun _ _=>rfl))) (Ze Ya (Qo Qw (pv 4) (pv 3) (fun _ _=>rfl))) (Qo Qw (pv 4) (pv 3) (fun _ _=>rfl))) (Ql Zl rfl M.abs Kj (Qa (Qo Qw (pv 1) (pv 2) (fun _ _=>rfl)) Qe))))
  (Qi (Xi (Qr Qha (pv 5) (pv 6) (Qt _)) (Qi (Qs (Yj Jo (pv 5) (pv 6) (Qt _)))) Qv)))))
  (Qi (Qs (Yj Jo (Qo Qw (Qq (pv 0) rfl) (pv 2) (fun _ _=>rfl)) (Qo Qw (Qq (pv 0) rfl) (pv 3) (fun _ _=>rfl)) (Qt _))))),?_⟩
 let Pv4:Nat->St->Hp->Prop:=fun i σ H2=>∃u1 u2 u3:Option V,H=H2/\σ=[some (.ref p),some (.ref x),some (.int k),some (.int c),u1,u2,u3]/\(1<=i->pq b.n b.F z.o z.one b.cA k*ab (L c)=pq b.n b.F z.o z.one b.cA c*ab (L k))/\(2<=i->pq b.n b.F z.o z.one unl k*ab (L c)=pq b.n b.F z.o z.one unl c*ab (L k))
 refine⟨_,rfl,S.prices T ⟨z.pr,rfl,⟨_,Qh S.pr⟩,Ym (xs:=[.ref z.p0,.ref z.p1]) Pv4
  ⟨none,none,none,rfl,rfl,fun y=>Om,fun y=>Om⟩ (fun i σ H2 _ ⟨_,_,_,e,_⟩=>by rw[<-e];exact Qh S.pr) ?_ ?_⟩⟩
 .rintro i y σ H2 e1 ⟨u1,u2,u3,rfl,rfl,hA,hB2⟩
  obtain⟨y',g,rfl,hg,hy,hi⟩:=S.prL e1
  have big:∀i,Big (pq b.n b.F z.o z.one g i):=fun i=>Qpv (pq_18 S.ok hg i)
  refine Qck (t:=tIf _ _ _) (.int (pq b.n b.F z.o z.one g k)) H (fun Q' q'=>?_) ?_
  .exact⟨_,rfl,S.ones T ⟨_,rfl,S.nix hk ⟨_,rfl,ite2 (fun e=>⟨_,rfl,_,rfl,hy.ix hk ⟨_,rfl,by
    rw[show pq b.n b.F z.o z.one g k=-Ln b.n b.F z.o g k from by unfold pq sx;rw[if_pos e];lia]at q'
    exact q'⟩⟩) (fun e=>⟨_,rfl,_,rfl,hy.ix hk (by
    rw[show pq b.n b.F z.o z.one g k=Ln b.n b.F z.o g k from by unfold pq sx;rw[if_neg e];lia]at q'
    exact q')⟩)⟩⟩⟩
  refine⟨_,rfl,_,rfl,hL.ix hc ⟨_,rfl,_,_,rfl,rfl,⟨big k,Qpw (hB c)⟩,?_⟩⟩
  refine Qcl ?_
  refine Qck (t:=tIf _ _ _) (.int (pq b.n b.F z.o z.one g c)) H (fun Q' q'=>?_) ?_
  .exact⟨_,rfl,S.ones T ⟨_,rfl,S.nix hc ⟨_,rfl,ite2 (fun e=>⟨_,rfl,_,rfl,hy.ix hc ⟨_,rfl,by
    rw[show pq b.n b.F z.o z.one g c=-Ln b.n b.F z.o g c from by unfold pq sx;rw[if_pos e];lia]at q'
    exact q'⟩⟩) (fun e=>⟨_,rfl,_,rfl,hy.ix hc (by
    rw[show pq b.n b.F z.o z.one g c=Ln b.n b.F z.o g c from by unfold pq sx;rw[if_neg e];lia]at q'
    exact q')⟩)⟩⟩⟩
  refine⟨_,rfl,_,rfl,hL.ix hk ⟨_,rfl,_,_,rfl,rfl,⟨big c,Qpw (hB k)⟩,?_⟩⟩
  rw[ab_eq,ab_eq]
  refine⟨_,rfl,_,rfl,rfl,_,rfl,ite2 (fun e=>?_) (fun e=>?_)⟩
  .have ne:¬pq b.n b.F z.o z.one g k*ab (L c)=pq b.n b.F z.o z.one g c*ab (L k):=fun h=>by
    have e':(!decide (V.int (pq b.n b.F z.o z.one g k*ab (L c))=V.int (pq b.n b.F z.o z.one g c*ab (L k))))=true:=e
    rw[h,kW rfl]at e'
    cases e'
   refine⟨_,rfl,_,rfl,_,_,rfl,rfl,q _ ?_⟩
   rw[decide_eq_true_iff]
   unfold nrL
   rcases hi with⟨rfl,rfl⟩ | ⟨rfl,rfl⟩
   .omega
   .have:=hA Om
    lia
  .have eq:pq b.n b.F z.o z.one g k*ab (L c)=pq b.n b.F z.o z.one g c*ab (L k):=Classical.byContradiction fun h=>e (by rw[jQe (fun z=>h (V.int.inj z))];rfl)
   refine⟨_,_,_,rfl,rfl,?_⟩
   rcases hi with⟨rfl,rfl⟩ | ⟨rfl,rfl⟩
   .exact⟨fun _=>eq,fun z=>Om⟩
   .exact⟨fun _=>hA Om,fun _=>eq⟩
 .rintro σ H2 ⟨u1,u2,u3,rfl,rfl,hA,hB2⟩
  have hA:=hA (by show 1<=2;decide)
  have hB2:=hB2 (by show 2<=2;decide)
  refine⟨_,rfl,S.outer T ⟨_,rfl,S.oix hk ⟨_,rfl,S.outer T ⟨_,rfl,S.oix hc ⟨_,_,rfl,rfl,q _ ?_⟩⟩⟩⟩⟩
  rw[decide_eq_true_iff]
  unfold nrL
  lia
def opV:Option Nat->V
 |none=>.non
 |some c=>.int ((c:Nat):Int)
abbrev sNst:Stmt:=inClass (top 18) 17
inductive spNst(K:Fg)(C:Addr)(vs:List V)(H:Hp)(Q:VK)(E:XK):Prop|mk(H0:Hp)(p:Addr)(a:TbA)(b:Pb)(z:TbS)(x:Addr)(t:Nat)(v:Int)(side:Int)(_:vs=[.ref p,.ref x,.int side])(_:Tab K C H0 H p a b z)(_:LnA H x b.n (Ln b.n b.F z.o (b.F t)) v)(_:(side=1\/side=-1))(_:∀f,Bst b.n b.F b.cA unl z.o z.one t side b.n f->Q (opV f) H):spNst K C vs H Q E
theorem scNst:FnScope ["self","line","side","found","column"] ["self","line","side"] (Qg sNst):=⟨rfl,rfl,rfl,Dk,rfl,Dk,Dk⟩
theorem okNst{f C:Addr}{fd:FuncData}(F:Fun K "nearest" "Tableau.nearest" sNst f fd)(M:Mg mg)(T:TbTxt K mg C){f_helps:Addr}{fd_helps:FuncData}(G_helps:FnOk P w K mg base CX0 1 f_helps fd_helps ["self","number","column","side"] (spHlp K C))(b_helps:Binds K fd_helps ["self","number","column","side"] [])(m_helps:Meth K C "helps" f_helps){f_nearer:Addr}{fd_nearer:FuncData}(G_nearer:FnOk P w K mg base CX0 1 f_nearer fd_nearer ["self","line","column","other"] (spNrr K C))(b_nearer:Binds K fd_nearer ["self","line","column","other"] [])(m_nearer:Meth K C "nearer" f_nearer):FnOk P w K mg base CX0 2 f fd ["self","line","side"] (spNst K C):=by
 refine F.ok scNst (fun vs H Q E h=>?_) (fun cdv A outer s H vs Q E hr h=>?_)
 .obtain⟨H0,p,a,b,z,x,t,v,side,rfl,_⟩:=h
  rfl
 obtain⟨H0,p,a,b,z,x,t,v,side,rfl,S,hL,hs,q⟩:=h
 refine⟨_,(Qb (Qp (i:=3) scNst.nd rfl (Or.inl rfl) Ye)
  (Qb (Yf PassesOwn.never rfl (Yo rfl M.range_ (Qa (Qq (pv 0) rfl) Qe)) (Qx (i:=4) scNst.nd rfl (Or.inl rfl) (Or.inl rfl)) (Qi (Xi (PW.pt (Yn (Xj (Xf (pv 0) T.cl m_helps G_helps (hr.mono Dc) b_helps .nil Yq (Qa (Qo Qw (pv 1) (pv 4) (fun _ _=>rfl)) (Qa (pv 4) (Qa (pv 2) Qe))))) (Zb (PW.pt (Wh (Qr Wl (pv 3) Ye (Qt _)) (Kv (Xj (Xf (pv 0) T.cl m_nearer G_nearer (hr.mono Dc) b_nearer .nil Yq (Qa (pv 1) (Qa (pv 4) (Qa (pv 3) Qe))))))))))) (Qi (Qp (i:=3) scNst.nd rfl (Or.inl rfl) (pv 4))) Qv)))
  (Qi (Qs (pv 3))))),?_⟩
 have n7:=S.ok.n7
 let Pv5:Nat->St->Hp->Prop:=fun i σ H2=>∃(f:Option Nat) (u:Option V),H=H2/\σ=[some (.ref p),some (.ref x),some (.int side),some (opV f),u]/\Bst b.n b.F b.cA unl z.o z.one t side i f
 refine⟨_,rfl,S.size T ⟨_,rfl,Om,Om,Jk (lo:=0) (n:=Int.toNat ((b.n:Nat):Int)) Pv5 ⟨none,none,rfl,rfl,Bst.zero⟩ ?_ ?_⟩⟩
 .rintro i σ H2 hi ⟨f,u,rfl,rfl,hb⟩
  rw[zK]at hi
  have e0:(0:Int)+((i:Nat):Int)=((i:Nat):Int):=jZe _
  rw[e0]
  refine⟨_,rfl,S.mt ⟨_,rfl,_,rfl,hL.ix hi ⟨_,rfl,_,rfl,H0,p,a,b,z,_,i,side,rfl,S,hi,hs,fun c hc=>⟨_,rfl,?_⟩⟩⟩⟩
  cases c with
  |false=>
   refine iteF (iteF ⟨f,_,rfl,rfl,hb.stay fun h=>?_⟩)
   exact nomatch hc.mpr h.1
  |true=>
   have hh:=hc.mp rfl
   refine iteT ?_
   cases f with
   |none=>exact⟨_,rfl,rfl,true,rfl,iteT (iteT ⟨_,rfl,some i,_,rfl,rfl,hb.take hh fun c e=>nomatch e⟩)⟩
   |some c=>
    refine⟨_,rfl,rfl,false,rfl,iteF ⟨_,rfl,S.mt ⟨_,rfl,_,rfl,_,rfl,H0,p,a,b,z,x,_,v,i,c,rfl,S,hi,kKd hb.1 hi,hL,fun j=>Qcj S.ok (S.ok.F t) j,fun r hr=>⟨_,rfl,?_⟩⟩⟩⟩
    cases r with
    |false=>exact iteF ⟨some c,_,rfl,rfl,hb.stay fun h=>nomatch hr.mpr (h.2 c rfl)⟩
    |true=>exact iteT ⟨_,rfl,some i,_,rfl,rfl,hb.take hh fun c' e=>by cases e;exact hr.mp rfl⟩
 .rintro σ H2 ⟨f,u,rfl,rfl,hb⟩
  rw[zK]at hb
  exact⟨_,rfl,q f hb⟩
theorem Xg{H H2:Hp}{g:Addr}{o:HO}(s:Same H H2)(h:H g=none):Same H (upd H2 g o):=fun c u e=>by rw[Qj (Qk e h)];exact s _ _ e
abbrev sTim:Stmt:=inClass (top 18) 23
inductive Qsa(K:Fg)(C:Addr)(vs:List V)(H:Hp)(Q:VK)(E:XK):Prop|mk(H0:Hp)(p:Addr)(a:TbA)(b:Pb)(z:TbS)(x:Addr)(L:Nat->Int)(v sg:Int)(_:vs=[.ref p,.ref x,.int sg])(_:Tab K C H0 H p a b z)(_:LnA H x b.n L v)(_:(sg=1\/sg=-1))(_:∀(g:Addr) (H':Hp),Same H H'->H g=none->IlA H' g b.m (tm b.n z.o fun k=>sg*L k)->Q (.ref g) H'):Qsa K C vs H Q E
theorem scTim:FnScope ["self","line","sign","times","column","thing"] ["self","line","sign"] (Qg sTim):=⟨rfl,rfl,rfl,Dk,rfl,Dk,Dk⟩
theorem okTim{f C:Addr}{fd:FuncData}(F:Fun K "times" "Tableau.times" sTim f fd)(M:Mg mg)(T:TbTxt K mg C):FnOk P w K mg base CX0 1 f fd ["self","line","sign"] (Qsa K C):=by
 refine F.ok scTim (fun vs H Q E h=>?_) (fun cdv A outer s H vs Q E hr h=>?_)
 .obtain⟨H0,p,a,b,z,x,L,v,sg,rfl,_⟩:=h
  rfl
 obtain⟨H0,p,a,b,z,x,L,v,sg,rfl,S,hL,hs,q⟩:=h
 refine⟨_,(Qb (Qp (i:=3) scTim.nd rfl (Or.inl rfl) (Qn Wq (Xz (Qa Qf Qe)) (Ql Qm rfl M.len Xl (Qa (Qq (pv 0) rfl) Qe))))
  (Qb (Yf PassesOwn.never rfl (Qcb true rfl M.enumerate_ (Qa (Qq (pv 0) rfl) Qe)) (Yu (K:=K) (i:=4) (j:=5) rfl rfl scTim.nd rfl rfl rfl rfl) (Qi (Xi (Qr Qhb (pv 5) (Qq (pv 0) rfl) (Qt _)) (Qi (Js (Qn Xu (pv 2) (Qo Qw (pv 1) (pv 4) (fun _ _=>rfl))) (Jx (pv 3) (Qn Xs (pv 5) (Qq (pv 0) rfl)) set_list))) Qv)))
  (Qi (Qs (pv 3))))),?_⟩
 have m7:=S.ok.m7
 have hz:(1000:Nat)<sizeLine:=Dc
 have hle:=S.ba.seq S.ro.le
 have lle:(b.rs.map fun r=>V.int r.2).length=b.m:=jQ _
 refine⟨by show 1<=sizeLine;decide,fun g0 hg0=>?_⟩
 have s0:=Qd hg0 (.lst [V.int 0])
 refine⟨_,rfl,(S.same s0).leasts T ⟨_,_,rfl,.inl (s0.seq hle),g0,_,_,rfl,rfl,Qc,Om,Om,by rw[lle,zK];show 1*b.m<=sizeLine;lia,fun g hg=>?_⟩⟩
 rw[lle,zK,repR]
 have hg1:H g=none:=by
  cases e:H g with
  |none=>rfl
  |some u=>rw[s0 _ _ e]at hg;cases hg
 have s1:Same H (upd (upd H g0 (.lst [V.int 0])) g (.lst ((List.range b.m).map fun _=>V.int 0))):=Xg s0 hg1
 refine⟨_,rfl,(S.same s1).outer T ⟨a.ou,rfl,⟨_,Qh (S.same s1).ou⟩,Qcc (m:=true) (K:=K) (a:=a.ou) (xs:=(List.range b.n).map fun k=>V.int ((z.o k:Nat):Int)) (fun i σ H2=>∃u1 u2:Option V,i<=b.n/\σ=[some (.ref p),some (.ref x),some (.int sg),some (.ref g),u1,u2]/\Same H H2/\IlA H2 g b.m (fun r=>Su i fun k=>if z.o k=b.n+r then sg*L k else 0))
  ⟨none,none,jQc _,rfl,s1,Qc⟩ (fun i σ H2 _ ⟨_,_,_,_,s2,_⟩=>Qh (S.same s2).ou) ?_ ?_⟩⟩
 .rintro i y σ H2 T' e1 ⟨u1,u2,hi,rfl,s2,hI⟩ hT
  have hi':i<b.n:=by have:=(jW.mp e1).1;rw[jQ,jV]at this;exact this
  rw[rgl hi']at e1
  cases e1
  have s3:=s2.trans (Qd hT (.tup [V.int ((i:Nat):Int),V.int ((z.o i:Nat):Int)]))
  have hI3:IlA (upd H2 T' (.tup [V.int ((i:Nat):Int),V.int ((z.o i:Nat):Int)])) g b.m (fun r=>Su i fun k=>if z.o k=b.n+r then sg*L k else 0):=Qd hT _ _ _ hI
  have hN:=S.st.th i hi'
  unfold Pb.N at hN
  refine⟨T',_,rfl,Qy Qc,rfl,_,_,rfl,_,_,rfl,rfl,?_⟩
  refine⟨_,rfl,_,rfl,(S.same s3).size T ⟨_,_,rfl,rfl,_,rfl,ite2 (fun e=>?_) (fun e=>?_)⟩⟩
  .have e':b.n<=z.o i:=by have:=kK e;lia
   have er:((z.o i:Nat):Int)-((b.n:Nat):Int)=((z.o i-b.n:Nat):Int):=Om
   refine⟨_,rfl,_,rfl,_,rfl,(show LnA _ x b.n L v from s3 _ _ hL).ix hi' ⟨_,_,rfl,rfl,cm1 Om,_,rfl,_,rfl,_,rfl,(S.same s3).size T ⟨_,_,rfl,rfl,g,_,_,z.o i-b.n,rfl,congrArg V.int er,hI3,rix Om,_,_,hi',rfl,Xg s3 hg1,IlA.set.congr fun r hr=>?_⟩⟩⟩
   show(if r=z.o i-b.n then sg*L i else Su i fun k=>if z.o k=b.n+r then sg*L k else 0)=(Su i fun k=>if z.o k=b.n+r then sg*L k else 0)+if z.o i=b.n+r then sg*L i else 0
   by_cases c:r=z.o i-b.n
   .subst c
    rw[if_pos rfl,if_pos (show z.o i=b.n+(z.o i-b.n)by lia),Yr fun k hk=>if_neg fun y=>?_,jZe]
    have:=S.st.ba.inj (kKd hk hi') hi' Om
    lia
   .rw[if_neg c,if_neg (show ¬z.o i=b.n+r by lia),wJ]
  .have e':z.o i<b.n:=Nat.lt_of_not_le fun h=>e (kW Om)
   refine⟨_,_,hi',rfl,s3,hI3.congr fun r hr=>?_⟩
   show(Su i fun k=>if z.o k=b.n+r then sg*L k else 0)=(Su i fun k=>if z.o k=b.n+r then sg*L k else 0)+if z.o i=b.n+r then sg*L i else 0
   rw[if_neg (show ¬z.o i=b.n+r by lia),wJ]
 .rintro σ H2 ⟨u1,u2,hi,rfl,s2,hI⟩
  rw[jQ,jV]at hI
  exact⟨_,rfl,q g H2 s2 hg1 hI⟩
abbrev sTAg:Stmt:=inClass (top 18) 24
inductive spTAg(K:Fg)(C:Addr)(vs:List V)(H:Hp)(Q:VK)(E:XK):Prop|mk(H0:Hp)(p:Addr)(a:TbA)(b:Pb)(z:TbS)(x:Addr)(t:Nat)(v side:Int)(_:vs=[.ref p,.int t,.ref x,.int side])(_:Tab K C H0 H p a b z)(_:LnA H x b.n (Ln b.n b.F z.o (b.F t)) v)(_:(side=1\/side=-1))(_:t<b.N)(_:∀(g:Addr) (H':Hp),Same H H'->H g=none->IlA H' g b.m (ty b.n b.F z.o t side)->Q (.ref g) H'):spTAg K C vs H Q E
theorem scTAg:FnScope ["self","thing","line","side","times"] ["self","thing","line","side"] (Qg sTAg):=⟨rfl,rfl,rfl,Dk,rfl,Dk,Dk⟩
theorem okTAg{f C:Addr}{fd:FuncData}(F:Fun K "times_against" "Tableau.times_against" sTAg f fd)(M:Mg mg)(T:TbTxt K mg C){f_times:Addr}{fd_times:FuncData}(G_times:FnOk P w K mg base CX0 1 f_times fd_times ["self","line","sign"] (Qsa K C))(b_times:Binds K fd_times ["self","line","sign"] [])(m_times:Meth K C "times" f_times):FnOk P w K mg base CX0 2 f fd ["self","thing","line","side"] (spTAg K C):=by
 refine F.ok scTAg (fun vs H Q E h=>?_) (fun cdv A outer s H vs Q E hr h=>?_)
 .obtain⟨H0,p,a,b,z,x,t,v,side,rfl,_⟩:=h
  rfl
 obtain⟨H0,p,a,b,z,x,t,v,side,rfl,S,hL,hs,ht,q⟩:=h
 refine⟨_,(Qb (Qp (i:=4) scTAg.nd rfl (Or.inl rfl) (Xf (pv 0) T.cl m_times G_times (hr.mono Dc) b_times .nil Yq (Qa (pv 2) (Qa (Ze Ya (pv 3)) Qe))))
  (Qb (Xi (Qr Qhb (pv 1) (Qq (pv 0) rfl) (Qt _)) (Qi (Js (Qq (pv 0) rfl) (Jx (pv 4) (Qn Xs (pv 1) (Qq (pv 0) rfl)) set_list))) Qv)
  (Qi (Qs (pv 4))))),?_⟩
 refine⟨_,rfl,S.mt ⟨_,rfl,_,rfl,_,rfl,H0,p,a,b,z,x,_,v,-side,rfl,S,hL,Om,fun g H1 s1 hg hI=>?_⟩⟩
 have S1:=S.same s1
 unfold Pb.N at ht
 refine⟨_,rfl,_,rfl,S1.size T ⟨_,_,rfl,rfl,_,rfl,ite2 (fun e=>?_) (fun e=>?_)⟩⟩
 .have e':b.n<=t:=by have:=kK e;lia
  have er:((t:Nat):Int)-((b.n:Nat):Int)=((t-b.n:Nat):Int):=Om
  refine⟨_,rfl,S1.scale T ⟨_,rfl,_,rfl,_,rfl,S1.size T ⟨_,_,rfl,rfl,g,_,_,t-b.n,rfl,congrArg V.int er,hI,rix Om,_,rfl,q g _ (Xg s1 hg) hg (IlA.set.congr fun r hr=>?_)⟩⟩⟩
  unfold ty
  by_cases c:r=t-b.n
  .rw[if_pos c,if_pos Om]
  .rw[if_neg c,if_neg Om]
 .have e':t<b.n:=Nat.lt_of_not_le fun h=>e (kW Om)
  refine⟨_,rfl,q g _ s1 hg (hI.congr fun r hr=>?_)⟩
  unfold ty
  rw[if_neg Om]
theorem Qks{r:List Int×Int}{q:Nat×Int}(h:q∈prt r):q.1<r.1.length/\q.2=r.1.getD q.1 0:=by
 unfold prt at h
 obtain⟨j,hj,e⟩:=kY.mp h
 obtain⟨h1,h2⟩:=jYa.mp hj
 rw[<-e]
 exact⟨xX.mp h1,rfl⟩
theorem Qcn{f:Nat->Int}:∀n:Nat,((List.range n).map f).sum=Su n f
 |0=>rfl
 |n+1=>by rw[jJb,yK,kZc,Qcn n];show _+(f n+0)=Su n f+f n;lia
theorem Qkt{r:List Int×Int}{W:Nat->Int}:((prt r).map fun q=>q.2*W q.1).sum=Su r.1.length fun j=>r.1.getD j 0*W j:=by
 unfold prt
 rw[xW,<-Qcn]
 generalize List.range r.1.length=xs
 induction xs with
 |nil=>rfl
 |cons x xs ih=>
  rw[yX,jJc,<-ih]
  by_cases c:r.1.getD x 0=0
  .rw[kYb (by rw[kW c];exact fun z=>nomatch z),c,wQ,jZe]
  .rw[kYa (by rw[jQe c];rfl),yX,jJc]
   rfl
theorem Tab.part{K:Fg}{C:Addr}{H0 H:Hp}{p:Addr}{a:TbA}{b:Pb}{z:TbS}(S:Tab K C H0 H p a b z){i:Nat}(hi:i<b.m){Q:V->Prop}(q:∀l ts,SqL K H0 l ts->PtA K H0 ts (prt (b.row i))->Q (.ref l)):∃p xs k u,V.ref a.pa=.ref p/\V.int ((i:Nat):Int)=.int k/\SqL K H p xs/\atI xs k=some u/\Q u:=by
 obtain⟨us,h1,h2⟩:=S.ro.pa
 have lu:=Paired.length h2
 have hi':i<us.length:=by rw[lu];exact hi
 obtain⟨r,er,l,ts,el,h3,h4⟩:=L2.Paired.getR h2 (gE hi')
 have e:b.row i=r:=by unfold Pb.row;rw[jZ,er];rfl
 refine⟨a.pa,us,_,_,rfl,rfl,S.ba.seq h1,Zw (gE hi'),?_⟩
 rw[el]
 exact q l ts h3 (by rw[e];exact h4)
theorem PtA.same{K:Fg}{H H':Hp}{vs:List V}{ps:List (Nat×Int)}(h:PtA K H vs ps)(s:Same H H'):PtA K H' vs ps:=Paired.mapP h fun _ _ ⟨t,e,y⟩=>⟨t,e,s.tup y⟩
theorem Tab.least{K:Fg}{C:Addr}{H0 H:Hp}{p:Addr}{a:TbA}{b:Pb}{z:TbS}(S:Tab K C H0 H p a b z){i:Nat}(hi:i<b.m){Q:V->Prop}(q:Q (.int (b.lo (b.n+i)))):∃p xs k u,V.ref a.le=.ref p/\V.int ((i:Nat):Int)=.int k/\SqL K H p xs/\atI xs k=some u/\Q u:=by
 refine⟨a.le,_,_,_,rfl,rfl,S.ba.seq S.ro.le,Zw (v:=.int (b.lo (b.n+i))) ?_,q⟩
 unfold Pb.lo Pb.row
 rw[if_neg Om,show b.n+i-b.n=i from by lia,jJ,jZ,gE hi]
 rfl
theorem Pb.Ok.rlen{b:Pb}(h:b.Ok){i:Nat}(hi:i<b.m):(b.row i).1.length=b.n:=h.ln _ (h.row hi)
abbrev sRwL:Stmt:=inClass (top 18) 10
inductive spRwL(K:Fg)(C:Addr)(vs:List V)(H:Hp)(Q:VK)(E:XK):Prop|mk(H0:Hp)(p:Addr)(a:TbA)(b:Pb)(z:TbS)(i:Nat)(x:Addr)(_:vs=[.ref p,.int i,.ref x])(_:Tab K C H0 H p a b z)(_:i<b.m)(_:IlA H x b.n (fun j=>Vo b.n b.F b.lo z.o z.one (b.F j)))(_:∀H',Same H H'->Q (.int (b.lo (b.n+i)*scl b.n b.F z.o-Vo b.n b.F b.lo z.o z.one (b.F (b.n+i)))) H'):spRwL K C vs H Q E
theorem scRwL:FnScope ["self","number","worths"] ["self","number","worths"] (Qg sRwL):=⟨rfl,rfl,rfl,Dk,rfl,Dk,Dk⟩
theorem okRwL{f C:Addr}{fd:FuncData}(F:Fun K "row_lack" "Tableau.row_lack" sRwL f fd)(M:Mg mg)(T:TbTxt K mg C):FnOk P w K mg base CX0 1 f fd ["self","number","worths"] (spRwL K C):=by
 refine F.ok scRwL (fun vs H Q E h=>?_) (fun cdv A outer s H vs Q E hr h=>?_)
 .obtain⟨H0,p,a,b,z,i,x,rfl,_⟩:=h
  rfl
 obtain⟨H0,p,a,b,z,i,x,rfl,S,hi,hx,q⟩:=h
 refine⟨_,(Qi (Qs (Qn Xs (Qn Xu (Qo Qw (Qq (pv 0) rfl) (pv 1) (fun _ _=>rfl)) (Qq (pv 0) rfl)) (Ql (Zy rfl) rfl M.sum Wu (Qa (Zm ["choice","many","worths"] [none,none,some 2] rfl (Xn (Qo Qw (Qq (pv 0) rfl) (pv 1) (fun _ _=>rfl))) (fun _ _ _=>(Yu (K:=K) (i:=0) (j:=1) rfl rfl (show(["choice","many","worths"]:List Str).Nodup by decide +kernel) rfl rfl rfl rfl)) (fun _ _ _=>Xy) (fun _ _ _=>(Qn Xu (pv 1) (Qo (Zr (K:=K) rfl) (pv 2) (pv 0) (fun _ _=>rfl))))) Qe))))),?_⟩
 have n7:=S.ok.n7
 have hz:(1000:Nat)<sizeLine:=Dc
 have hl:=S.ok.rlen hi
 refine⟨_,rfl,S.leasts T ⟨_,rfl,S.least hi ⟨_,rfl,S.scale T ⟨_,_,rfl,rfl,cmB (S.ok.lo _),_,rfl,S.parts T ⟨_,rfl,S.part hi fun l ts h1 h2=>⟨l,rfl,⟨_,S.ba.seq h1⟩,fun D hD=>?_⟩⟩⟩⟩⟩⟩
 refine Wa (K:=K) (xs:=prt (b.row i)) (v1:=fun q=>.int ((q.1:Nat):Int)) (v2:=fun q=>.int q.2) V.int (fun q=>q.2*Vo b.n b.F b.lo z.o z.one (b.F q.1)) rfl (Vg (S.ba.seq h1) (h2.same S.ba)) ?_ hD (fun y hy H1 s1 P h=>?_) fun H1 s1 h1'=>?_
 .unfold prt
  rw[jQ]
  have:=jXe (fun j=>!decide ((b.row i).1.getD j 0=0)) (List.range (b.row i).1.length)
  rw[jV]at this
  lia
 .obtain⟨y1,y2⟩:=Qks hy
  exact⟨_,rfl,_,rfl,_,rfl,ixR (s1 _ _ hx) Om ⟨_,_,rfl,rfl,cmB (by rw[y2];exact(S.ok.rowIn i _).1),h H1 fun _ _ z=>z⟩⟩
 .refine⟨D,_,rfl,Qh h1',_,_,rfl,rfl,?_⟩
  rw[Qkt (W:=fun j=>Vo b.n b.F b.lo z.o z.one (b.F j)),hl]
  have e:(Su b.n fun j=>(b.row i).1.getD j 0*Vo b.n b.F b.lo z.o z.one (b.F j))=Vo b.n b.F b.lo z.o z.one (b.F (b.n+i)):=by
   rw[<-Qip b.fx]
   refine Xc fun j _=>?_
   unfold Pb.F
   rw[if_neg (show ¬b.n+i<b.n by lia),show b.n+i-b.n=i from by lia]
  rw[e]
  exact q H1 s1
def w1(b:Pb)(z:TbS)(i j:Nat):Int:=Su i fun k=>if z.o k=j then(if z.one k=true then scl b.n b.F z.o else 0)else 0
theorem w1_out{b:Pb}{z:TbS}(st:Stt b.n b.N b.F z.o z.one){k:Nat}(hk:k<b.n)(hj:z.o k<b.n):w1 b z b.n (z.o k)=Vo b.n b.F b.lo z.o z.one (b.F (z.o k)):=by
 unfold w1
 rw[Qcs hk,Zc (k:=k) hk fun i hi ne=>if_neg fun y=>ne (st.ba.inj hi hk y),if_pos rfl]
 unfold en
 by_cases c:z.one k=true
 .rw[if_pos c,if_pos c,jKe]
 .rw[if_neg c,if_neg c,b.fx.l0 _ hj,zV]
theorem Tab.all{K:Fg}{C:Addr}{H0 H:Hp}{p:Addr}{a:TbA}{b:Pb}{z:TbS}(S:Tab K C H0 H p a b z){j:Nat}(hj:j<b.n):(∃k,k<b.n/\z.o k=j)\/j∈z.js:=by
 by_cases c:∃k,k<b.n/\z.o k=j
 .exact .inl c
 .exact .inr ((S.jm j).mpr ⟨hj,fun k hk e=>c ⟨k,hk,e⟩⟩)
theorem Tab.jlen{K:Fg}{C:Addr}{H0 H:Hp}{p:Addr}{a:TbA}{b:Pb}{z:TbS}(S:Tab K C H0 H p a b z):z.js.length<=7:=by
 have h:∀j∈z.js,j<7:=fun j hj=>xY ((S.jm j).mp hj).1 S.ok.n7
 have n:=S.jn
 have e:z.js.length=cnt [] 7-cnt z.js 7:=by
  have key:∀(xs:List Nat),xs.Nodup->(∀j∈xs,j<7)->cnt xs 7+xs.length=7:=by
   intro xs
   induction xs with
   |nil=>intro _ _;rfl
   |cons x xs ih=>
    intro nd hx
    have ih':=ih (kJ.mp nd).2 fun j hj=>hx j (yZ _ hj)
    have l1:=Qii (kJ.mp nd).1 (hx x (yV ..))
    have l2:cnt xs 7<=cnt (x::xs) 7+1:=by
     have:∀M,cnt xs M<=cnt (x::xs) M+(if x<M then 1 else 0):=by
      intro M
      induction M with
      |zero=>exact jQc _
      |succ M ihM=>
       show cnt xs M+_<=cnt (x::xs) M+_+_
       by_cases cx:x=M
       .subst cx
        rw[if_neg (wW _)]at ihM
        rw[if_pos (jJd _)]
        split<;>lia
       .by_cases d:M∈xs
        .rw[if_pos d,if_pos (yZ _ d)]
         by_cases e:x<M
         .rw[if_pos e]at ihM;rw[if_pos Om];lia
         .rw[if_neg e]at ihM;lia
        .rw[if_neg d,if_neg (fun y=>by rcases kQ.mp y with y | y;exact cx y.symm;exact d y)]
         by_cases e:x<M
         .rw[if_pos e]at ihM;rw[if_pos Om];lia
         .rw[if_neg e]at ihM;lia
     have:=this 7
     split at this<;>lia
    rw[xQ]
    lia
  have:=key z.js n h
  have e7:cnt [] 7=7:=rfl
  lia
 have e7:cnt [] 7=7:=rfl
 lia
structure Frz(C:Addr)(H:Hp)(p:Addr)(a:TbA)(b:Pb)(z:TbS):Prop where
 ob:TbO C H p a b z
 ln:∀j∈z.js,LnA H (z.ad j) b.n (Ln b.n b.F z.o (b.F j)) (Vo b.n b.F b.lo z.o z.one (b.F j))
 dg:∀j∈z.js,DGet H a.inn (.int ((j:Nat):Int)) (some (.ref (z.ad j)))
theorem Tab.frz{K:Fg}{C:Addr}{H0 H H3:Hp}{p:Addr}{a:TbA}{b:Pb}{z:TbS}(S:Tab K C H0 H p a b z)(s:Same (wo H a.inn) H3){fo:Obj}(hf:H3 a.inn=some (.frz fo (.dK (z.js.map fun j=>((Sum.inl ((j:Nat):Int):Key),V.ref (z.ad j)))))):Frz C H3 p a b z:=by
 obtain⟨dx,fs,h1,h2,h3⟩:=S.ob
 refine⟨⟨dx,fs,Vh s (Yl h1 S.inn (by intro z;cases z)) h1,h2,h3⟩,fun j hj=>?_,fun j hj=>.inl ⟨_,Sum.inl ((j:Nat):Int),.inr ⟨fo,hf⟩,rfl,(valV_js.trans (if_pos hj)).symm⟩⟩
 have h:=S.lns j hj
 exact Vh s (Yl h S.inn (by intro z;cases z)) h
abbrev sWor:Stmt:=inClass (top 18) 6
inductive Qsb(K:Fg)(C:Addr)(vs:List V)(H:Hp)(Q:VK)(E:XK):Prop|mk(H0:Hp)(p:Addr)(a:TbA)(b:Pb)(z:TbS)(_:vs=[.ref p])(_:Tab K C H0 H p a b z)(_:∀(g:Addr) (H':Hp),Same H H'->H g=none->IlA H' g b.n (fun j=>Vo b.n b.F b.lo z.o z.one (b.F j))->Q (.ref g) H'):Qsb K C vs H Q E
theorem scWor:FnScope ["self","worths","thing","one","choice"] ["self"] (Qg sWor):=⟨rfl,rfl,rfl,Dk,rfl,Dk,Dk⟩
theorem okWor{f C:Addr}{fd:FuncData}(F:Fun K "worths" "Tableau.worths" sWor f fd)(M:Mg mg)(T:TbTxt K mg C):FnOk P w K mg base CX0 1 f fd ["self"] (Qsb K C):=by
 refine F.ok scWor (fun vs H Q E h=>?_) (fun cdv A outer s H vs Q E hr h=>?_)
 .obtain⟨H0,p,a,b,z,rfl,_⟩:=h
  rfl
 obtain⟨H0,p,a,b,z,rfl,S,q⟩:=h
 have hu:(A.deeper (PyProof.Rows.envOfC "Tableau.worths" (Qg sWor) s.heap.objs.size f cdv)).units+1<cLine:=zQ (zZ Dc _) hr.un
 refine⟨_,(Qb (Qp (i:=1) scWor.nd rfl (Or.inl rfl) (Qn Wq (Xz (Qa Qf Qe)) (Qq (pv 0) rfl)))
  (Qb (Yf PassesOwn.never rfl (Qax true true rfl M.zip_ (Qa (Qq (pv 0) rfl) (Qa (Qq (pv 0) rfl) Qe))) (Yu (K:=K) (i:=2) (j:=3) rfl rfl scWor.nd rfl rfl rfl rfl) (Qi (Xi (Xj (pv 3)) (Qi (Js (Qq (pv 0) rfl) (Jx (pv 1) (pv 2) set_list))) Qv)))
  (Qb (Qkk (Yf PassesOwn.never rfl (Qgd (Qq (pv 0) rfl)) (Qx (i:=4) scWor.nd rfl (Or.inl rfl) (Or.inl rfl)) (Qi (Js (Qo Qw (Jp hu (Qq (pv 0) rfl) (pv 4) (fun _ _=>rfl)) (Ze Ya Qf) (fun _ _=>rfl)) (Jx (pv 1) (pv 4) set_list)))))
  (Qi (Qs (pv 1)))))),?_⟩
 have n7:=S.ok.n7
 have hz:(1000:Nat)<sizeLine:=Dc
 refine⟨by show 1<=sizeLine;decide,fun g0 hg0=>?_⟩
 have s0:=Qd hg0 (.lst [V.int 0])
 refine⟨_,rfl,(S.same s0).size T ⟨g0,_,_,rfl,rfl,Qc,Om,Om,by rw[zK];show 1*b.n<=sizeLine;lia,fun g hg=>?_⟩⟩
 rw[zK,repR]
 have hg1:H g=none:=by
  cases e:H g with
  |none=>rfl
  |some u=>rw[s0 _ _ e]at hg;cases hg
 have s1:Same H (upd (upd H g0 (.lst [V.int 0])) g (.lst ((List.range b.n).map fun _=>V.int 0))):=Xg s0 hg1
 refine⟨_,rfl,(S.same s1).outer T ⟨_,rfl,(S.same s1).ones T ⟨a.ou,a.on,rfl,⟨_,Qh (S.same s1).ou⟩,⟨_,Qh (S.same s1).on⟩,Qrr (m1:=true) (m2:=true) (K:=K) (a:=a.ou) (b:=a.on) (xs:=(List.range b.n).map fun k=>V.int ((z.o k:Nat):Int)) (ys:=(List.range b.n).map fun k=>V.bl (z.one k)) (fun i σ H2=>∃u1 u2:Option V,i<=b.n/\σ=[some (.ref p),some (.ref g),u1,u2,none]/\Same H H2/\IlA H2 g b.n (w1 b z i))
  ⟨none,none,jQc _,rfl,s1,Qc⟩ (fun i σ H2 _ ⟨_,_,_,_,s2,_⟩=>⟨Qh (S.same s2).ou,Qh (S.same s2).on⟩) ?_ ?_⟩⟩⟩
 .rintro i y1 y2 σ H2 T' e1 e2 ⟨u1,u2,hi,rfl,s2,hI⟩ hT
  have hi':i<b.n:=by have:=(jW.mp e1).1;rw[jQ,jV]at this;exact this
  rw[rgl hi']at e1 e2
  cases e1
  cases e2
  have s3:=s2.trans (Qd hT (.tup [V.int ((z.o i:Nat):Int),V.bl (z.one i)]))
  have hI3:IlA (upd H2 T' (.tup [V.int ((z.o i:Nat):Int),V.bl (z.one i)])) g b.n (w1 b z i):=Qd hT _ _ _ hI
  refine⟨T',_,rfl,Qy Qc,rfl,_,_,rfl,_,_,rfl,rfl,?_⟩
  have st:∀j,w1 b z (i+1) j=w1 b z i j+if z.o i=j then(if z.one i=true then scl b.n b.F z.o else 0)else 0:=fun j=>rfl
  refine⟨_,rfl,_,rfl,ite2 (fun e=>?_) (fun e=>?_)⟩
  .have hc:=S.st.ch i hi' e
   refine⟨_,rfl,(S.same s3).scale T ⟨_,rfl,_,rfl,g,_,_,z.o i,rfl,rfl,hI3,rix hc,_,_,hi',rfl,Xg s3 hg1,IlA.set.congr fun j hj=>?_⟩⟩
   rw[st]
   by_cases c:j=z.o i
   .subst c
    have e0:w1 b z i (z.o i)=0:=Yr fun k hk=>if_neg fun y=>by
     have:=S.st.ba.inj (kKd hk hi') hi' y
     lia
    rw[if_pos rfl,if_pos rfl,if_pos e,e0,jZe]
   .rw[if_neg c,if_neg (fun y=>c y.symm),wJ]
  .refine⟨_,_,hi',rfl,s3,hI3.congr fun j hj=>?_⟩
   rw[st,if_neg e]
   split<;>lia
 .rintro σ H2 ⟨u1,u2,hi,rfl,s2,hI⟩
  rw[jQ,jQ,jV,Nat.min_self]at hI
  have S2:=S.same s2
  have pn:H2 a.inn=some (.dK (z.js.map fun j=>((Sum.inl ((j:Nat):Int):Key),V.ref (z.ad j)))):=S2.inn
  have gn:g≠a.inn:=fun y=>by rw[y,S.inn]at hg1;cases hg1
  refine⟨_,rfl,S2.inner T ⟨a.inn,_,rfl,pn,fun nf fo=>Qnq (fun i σ H3=>∃u:Option V,σ=[some (.ref p),some (.ref g),u1,u2,u]/\Same (wo H a.inn) H3/\H3 a.inn=some (.frz fo (.dK (z.js.map fun j=>((Sum.inl ((j:Nat):Int):Key),V.ref (z.ad j)))))/\IlA H3 g b.n (fun j=>if j∈z.js.take i then Vo b.n b.F b.lo z.o z.one (b.F j)else w1 b z b.n j)) ⟨none,rfl,?_,Qc,?_⟩ (fun i σ H3 _ ⟨_,_,_,h,_⟩=>h) ?_ ?_⟩⟩
  .exact fun c u e=>by
    by_cases y:c=a.inn
    .rw[y]at e;unfold wo at e;rw[if_pos rfl]at e;cases e
    .rw[Qj y];rw[Qfc y]at e;exact s2 _ _ e
  .unfold IlA
   rw[Qj gn]
   exact hI.congr fun j _=>by rw[List.take_zero,if_neg (fun y=>nomatch y)]
  .rintro i k y σ H3 e1 ⟨u,rfl,s3,h3,hI3⟩
   rw[jJ]at e1
   cases e2:z.js[i]? with
   |none=>rw[e2]at e1;cases e1
   |some j=>
    rw[e2]at e1
    cases e1
    have hj:=yQ e2
    have hjn:=((S.jm j).mp hj).1
    have Z:=S.frz s3 h3
    refine⟨_,rfl,Z.ob.inner T ⟨_,rfl,a.inn,_,rfl,Z.dg j hj,_,rfl,(Z.ln j hj).last ⟨_,rfl,_,rfl,g,_,_,j,rfl,rfl,hI3,rix hjn,_,rfl,?_,?_,IlA.set.congr fun r hr=>?_⟩⟩⟩
    .exact fun c u e=>by
      rw[Qj (fun y=>by rw[y]at e;unfold wo at e;split at e;cases e;rw[hg1]at e;cases e)]
      exact s3 _ _ e
    .rw[Qj (Ne.symm gn)];exact h3
    .rw[Qae e2]
     by_cases c:r=j
     .rw[if_pos c,if_pos (zY.mpr (.inr (yW.mpr c))),c]
     .rw[if_neg c]
      by_cases d:r∈z.js.take i
      .rw[if_pos d,if_pos (zY.mpr (.inl d))]
      .rw[if_neg d,if_neg (fun y=>by rcases zY.mp y with y | y;exact d y;exact c (yW.mp y))]
  .rintro σ H3 ⟨u,rfl,s3,h3,hI3⟩
   rw[jQ,wY]at hI3
   refine⟨a.inn,fo,_,nf,h3,_,rfl,q g _ (Qkq S.inn s3) hg1 ?_⟩
   unfold IlA
   rw[Qj gn]
   refine hI3.congr fun j hj=>?_
   by_cases c:j∈z.js
   .rw[if_pos c]
   .rw[if_neg c]
    rcases S.all hj with⟨k,hk,e⟩ | y
    .rw[<-e];exact w1_out S.st hk (by rw[e];exact hj)
    .exact absurd y c
theorem Qnu{n:Nat}{g:Nat->V}:cutV ((List.range (n+1)).map g) none (some (-1))=(List.range n).map g:=by
 unfold cutV
 have e1:HT.sIx ((List.range (n+1)).map g).length 0 none=0:=rfl
 have e2:HT.sIx ((List.range (n+1)).map g).length ((List.range (n+1)).map g).length (some (-1))=n:=by
  rw[jQ,jV]
  show(if (-1:Int)<0 then((-1:Int)+((n+1:Nat):Int)).toNat else min (-1:Int).toNat (n+1))=n
  rw[if_pos Dc]
  lia
 rw[e1,e2,List.drop_zero,Nat.sub_zero,jJb,yK,List.take_append_of_le_length (by simp),jXc (by simp)]
theorem Qku{xs:List Int}:(∀x∈xs,0<=x/\x<=Cx)->0<=xs.sum/\xs.sum<=((xs.length:Nat):Int)*Cx:=by
 induction xs with
 |nil=>intro _;exact⟨jYe _,by rw[show(([]:List Int).length:Int)=0 from rfl,wQ];exact jYe _⟩
 |cons x xs ih=>
  intro h
  have h1:=ih fun y hy=>h y (yZ _ hy)
  have h2:=h x (yV ..)
  rw[jJc,xQ,kKe,Int.add_mul]
  show 0<=x+xs.sum/\x+xs.sum<=_+1*Cx
  omega
abbrev sWgt:Stmt:=inClass (top 18) 12
inductive spWgt(K:Fg)(C:Addr)(vs:List V)(H:Hp)(Q:VK)(E:XK):Prop|mk(H0:Hp)(p:Addr)(a:TbA)(b:Pb)(z:TbS)(t:Nat)(_:vs=[.ref p,.int t])(_:Tab K C H0 H p a b z)(_:t<b.N)(_:(t<b.n->t∈z.js))(_:∀(x:Int) (H':Hp),Same H H'->1<=x->x<=8*Cx->Q (.int x) H'):spWgt K C vs H Q E
theorem scWgt:FnScope ["self","thing"] ["self","thing"] (Qg sWgt):=⟨rfl,rfl,rfl,Dk,rfl,Dk,Dk⟩
theorem okWgt{f C:Addr}{fd:FuncData}(F:Fun K "weight" "Tableau.weight" sWgt f fd)(M:Mg mg)(T:TbTxt K mg C):FnOk P w K mg base CX0 1 f fd ["self","thing"] (spWgt K C):=by
 refine F.ok scWgt (fun vs H Q E h=>?_) (fun cdv A outer s H vs Q E hr h=>?_)
 .obtain⟨H0,p,a,b,z,t,rfl,_⟩:=h
  rfl
 obtain⟨H0,p,a,b,z,t,rfl,S,ht,hj,q⟩:=h
 have hu:(A.deeper (PyProof.Rows.envOfC "Tableau.weight" (Qg sWgt) s.heap.objs.size f cdv)).units+1<cLine:=zQ (zZ Dc _) hr.un
 refine⟨_,(Qb (Xi (Qr Jo (pv 1) (Qq (pv 0) rfl) (Qt _)) (Qi (Qs (Qn Yi (Ql (Zy rfl) rfl M.sum Wu (Qa (Zm ["number"] [none] rfl (Xn (Qbn Qer (Jp hu (Qq (pv 0) rfl) (pv 1) (fun _ _=>rfl)) Qen (Qeo (Ze Ya Qf)))) (fun _ _ _=>(Qx (i:=0) (show(["number"]:List Str).Nodup by decide +kernel) rfl (Or.inl rfl) (Or.inr rfl))) (fun _ _ _=>Xy) (fun _ _ _=>(Ql Zl rfl M.abs Kj (Qa (pv 0) Qe)))) Qe)) Qf))) Qv)
  (Qi (Qs (Qo Qw (Qq (pv 0) rfl) (Qn Xs (pv 1) (Qq (pv 0) rfl)) (fun _ _=>rfl))))),?_⟩
 have n7:=S.ok.n7
 have hz:(1000:Nat)<sizeLine:=Dc
 unfold Pb.N at ht
 have cx:=cxy
 refine⟨_,rfl,_,rfl,S.size T ⟨_,_,rfl,rfl,_,rfl,ite2 (fun e=>?_) (fun e=>?_)⟩⟩
 .have e':t<b.n:=by have:=kK e;lia
  refine⟨_,rfl,S.inner T ⟨_,rfl,S.ing (hj e') ⟨_,rfl,_,rfl,z.ad t,_,rfl,Qh (S.lns t (hj e')),fun l hl=>?_⟩⟩⟩
  rw[Qnu]
  have s1:=Qd hl (.lst ((List.range b.n).map fun k=>V.int (LnF b.n (Ln b.n b.F z.o (b.F t)) (Vo b.n b.F b.lo z.o z.one (b.F t)) k)))
  refine⟨l,rfl,⟨_,Qh Qc⟩,fun D hD=>?_⟩
  refine Zi (xs:=List.range b.n) (val:=fun k=>V.int (LnF b.n (Ln b.n b.F z.o (b.F t)) (Vo b.n b.F b.lo z.o z.one (b.F t)) k)) V.int (fun k=>ab (LnF b.n (Ln b.n b.F z.o (b.F t)) (Vo b.n b.F b.lo z.o z.one (b.F t)) k)) rfl (Zn (Qh Qc)) (by rw[jV];lia) hD (fun k hk H1 s2 P h=>⟨_,rfl,_,rfl,h H1 fun _ _ z=>z⟩) fun H1 s2 h1=>?_
  refine⟨D,_,rfl,Qh h1,_,_,rfl,rfl,?_⟩
  have hs:=Qku (xs:=(List.range b.n).map fun k=>ab (LnF b.n (Ln b.n b.F z.o (b.F t)) (Vo b.n b.F b.lo z.o z.one (b.F t)) k)) fun x hx=>by
   obtain⟨k,hk,e⟩:=kY.mp hx
   rw[<-e,Jj (xX.mp hk)]
   have:=Qcj S.ok (o:=z.o) (S.ok.F t) k
   unfold ab
   split<;>lia
  rw[jQ,jV]at hs
  have hm:((b.n:Nat):Int)*Cx<=7*Cx:=jXd Om Om
  exact q _ _ (s1.trans s2) (by omega) (by omega)
 .have e':b.n<=t:=kKa fun h=>e (kW Om)
  have er:((t:Nat):Int)-((b.n:Nat):Int)=((t-b.n:Nat):Int):=Om
  obtain⟨ws,h1,h2,h3⟩:=S.ro.we
  have hi:t-b.n<ws.length:=Om
  refine⟨_,rfl,S.weights T ⟨_,rfl,_,rfl,S.size T ⟨_,_,rfl,rfl,a.we,_,_,_,rfl,congrArg V.int er,S.ba.seq h1,Zw (v:=.int ws[t-b.n]) (by rw[jJ,gE hi];rfl),?_⟩⟩⟩
  have:=h3 _ (jQf hi)
  exact q _ _ (fun _ _ z=>z) Om Om
abbrev sFur:Stmt:=inClass (top 18) 11
inductive spFur(K:Fg)(C:Addr)(vs:List V)(H:Hp)(Q:VK)(E:XK):Prop|mk(H0:Hp)(p:Addr)(a:TbA)(b:Pb)(z:TbS)(l:Addr)(vs':List V)(ps:List (Nat×Int))(_:vs=[.ref p,.ref l])(_:Tab K C H0 H p a b z)(_:SqL K H l vs')(_:PtA K H vs' ps)(_:ps≠[])(_:ps.length<=20)(_:(∀y∈ps,y.1<b.N/\(y.1<b.n->y.1∈z.js)/\0<y.2/\y.2<=5*Cy))(_:∀y∈ps,∀H',Same H H'->Q (.int ((y.1:Nat):Int)) H'):spFur K C vs H Q E
theorem Qsc{x:Int}(h1:1<=x)(h2:x<=8*Cx):Big x:=Ji (by have:=cxy;lia)
theorem scFur:FnScope ["self","lacks","best","most","thing","lack","score"] ["self","lacks"] (Qg sFur):=⟨rfl,rfl,rfl,Dk,rfl,Dk,Dk⟩
theorem okFur{f C:Addr}{fd:FuncData}(F:Fun K "furthest" "Tableau.furthest" sFur f fd)(M:Mg mg)(T:TbTxt K mg C){f_weight:Addr}{fd_weight:FuncData}(G_weight:FnOk P w K mg base CX0 1 f_weight fd_weight ["self","thing"] (spWgt K C))(b_weight:Binds K fd_weight ["self","thing"] [])(m_weight:Meth K C "weight" f_weight):FnOk P w K mg base CX0 2 f fd ["self","lacks"] (spFur K C):=by
 refine F.ok scFur (fun vs H Q E h=>?_) (fun cdv A outer s H vs Q E hr h=>?_)
 .obtain⟨H0,p,a,b,z,l,vs',ps,rfl,_⟩:=h
  rfl
 obtain⟨H0,p,a,b,z,l,vs',ps,rfl,S,hl,hp,h0,h20,hy,q⟩:=h
 refine⟨_,(Qb (Qp (i:=2) scFur.nd rfl (Or.inl rfl) Ye)
  (Qb (Qp (i:=3) scFur.nd rfl (Or.inl rfl) (Ze Ya Qf))
  (Qb (Yf PassesOwn.never rfl (Xn (pv 1)) (Yu (K:=K) (i:=4) (j:=5) rfl rfl scFur.nd rfl rfl rfl rfl) (Qb (Qp (i:=6) scFur.nd rfl (Or.inl rfl) (Qn Zs (Qn Wy (pv 5) (Qn Wj Qf Qf)) (Xf (pv 0) T.cl m_weight G_weight (hr.mono Dc) b_weight .nil Yq (Qa (pv 4) Qe))))
  (Qi (Xi (Qr Wk (pv 6) (pv 3) (Qt _)) (Qb (Qp (i:=2) scFur.nd rfl (Or.inl rfl) (pv 4))
  (Qi (Qp (i:=3) scFur.nd rfl (Or.inl rfl) (pv 6)))) Qv))))
  (Qi (Qs (pv 2)))))),?_⟩
 have hz:(1000:Nat)<sizeLine:=Dc
 have lp:=Paired.length hp
 have cx:=cxy
 let Pv6:Nat->St->Hp->Prop:=fun i σ H2=>∃(bv:V) (m:Int) (u1 u2 u3:Option V),σ=[some (.ref p),some (.ref l),some bv,some (.int m),u1,u2,u3]/\Same H H2/\((i=0/\m=-1)\/(0<i/\∃y∈ps,bv=.int ((y.1:Nat):Int)))
 refine⟨_,rfl,_,rfl,l,rfl,⟨_,hl⟩,Ym (xs:=vs') Pv6 ⟨.non,-1,none,none,none,rfl,fun _ _ z=>z,.inl ⟨rfl,rfl⟩⟩ (fun i σ H2 _ ⟨_,_,_,_,_,_,s2,_⟩=>s2.seq hl) ?_ ?_⟩
 .rintro i v σ H2 e1 ⟨bv,m,u1,u2,u3,rfl,s2,hb⟩
  obtain⟨y,ey,T',rfl,hT⟩:=L2.Paired.getR hp e1
  have hym:=yQ ey
  obtain⟨y1,y2,y3,y4⟩:=hy y hym
  refine⟨T',_,rfl,s2.tup hT,rfl,_,_,rfl,_,_,rfl,rfl,?_⟩
  have b5:(5:Int)*Cy<=10*Cy:=Dk
  have b0:(0:Int)<Cy:=Dk
  refine⟨_,rfl,_,_,rfl,rfl,⟨Dc,Dc,Dc⟩,_,_,rfl,rfl,⟨Ji Om,Ji Dk⟩,_,rfl,(S.same s2).mt ⟨_,rfl,H0,p,a,b,z,y.1,rfl,S.same s2,y1,y2,fun x H3 s3 x1 x2=>⟨_,_,rfl,rfl,⟨Om,Qsc x1 x2⟩,?_⟩⟩⟩
  have s23:=s2.trans s3
  refine⟨_,rfl,_,rfl,_,_,rfl,rfl,_,rfl,ite2 (fun e=>?_) (fun e=>?_)⟩
  .exact⟨_,rfl,_,rfl,_,_,_,_,_,rfl,s23,.inr ⟨Nat.succ_pos _,y,hym,rfl⟩⟩
  .refine⟨_,_,_,_,_,rfl,s23,?_⟩
   rcases hb with⟨rfl,rfl⟩ | ⟨h1,h2⟩
   .refine absurd (kW ?_) e
    have:0<=(y.2*(2:Int) ^ (30:Int).toNat).fdiv x:=Int.fdiv_nonneg (jXf Om Dc) Om
    show -1<(y.2*(2:Int) ^ (30:Int).toNat).fdiv x
    lia
   .exact .inr ⟨Nat.succ_pos _,h2⟩
 .rintro σ H2 ⟨bv,m,u1,u2,u3,rfl,s2,hb⟩
  rcases hb with⟨h1,_⟩ | ⟨_,y,hy',rfl⟩
  .exact absurd (jKf (by lia:ps.length=0)) h0
  .exact⟨_,rfl,q y hy' H2 s2⟩
structure LkOk(b:Pb)(z:TbS)(ps:List (Nat×Int)):Prop where
 mem:∀y∈ps,y.1<b.N/\(y.1<b.n->y.1∈z.js)/\0<y.2/\y.2<=5*Cy/\¬Wi b.n b.F b.lo z.o z.one y.1
 few:ps.length<=20
 nil:ps=[]->∀t,t<b.N->Wi b.n b.F b.lo z.o z.one t
 fst:∀y rest,ps=y::rest->∀t,t<y.1->Wi b.n b.F b.lo z.o z.one t
theorem Qkv{b:Pb}{z:TbS}{L:List (Nat×Int)}(hs:L.Pairwise fun x y=>x.1<=y.1)(hL:∀y∈L,y.1<b.N/\(y.1<b.n->y.1∈z.js)/\y.2<=5*Cy/\(0<y.2↔¬Wi b.n b.F b.lo z.o z.one y.1))(hf:L.length<=20)
  (ha:∀t,t<b.N->Wi b.n b.F b.lo z.o z.one t\/(∃y∈L,y.1=t)\/∃y∈L,0<y.2/\y.1<t):LkOk b z (L.filter fun y=>decide (0<y.2)):=by
 have inn:∀y∈L,0<y.2->y∈L.filter fun y=>decide (0<y.2):=fun y hy h=>jYa.mpr ⟨hy,kW h⟩
 refine⟨fun y hy=>?_,jQb (jXe _ _) hf,fun e t ht=>?_,fun y rest e t ht=>?_⟩
 .obtain⟨h1,h2⟩:=jYa.mp hy
  obtain⟨a1,a2,a3,a4⟩:=hL y h1
  have p:=kK h2
  exact⟨a1,a2,p,a3,a4.mp p⟩
 .rcases ha t ht with h | ⟨y,hy,rfl⟩ | ⟨y,hy,hp,_⟩
  .exact h
  .refine Classical.byContradiction fun c=>?_
   have:=inn y hy ((hL y hy).2.2.2.mpr c)
   rw[e]at this
   exact nomatch this
  .have:=inn y hy hp
   rw[e]at this
   exact nomatch this
 .have pw:=List.Pairwise.filter (fun y:Nat×Int=>decide (0<y.2)) hs
  have le:∀x∈L,0<x.2->y.1<=x.1:=fun x hx hp=>by
   have h:=inn x hx hp
   rw[e]at h pw
   rcases kQ.mp h with h | h
   .rw[h];exact jY _
   .exact(List.pairwise_cons.mp pw).1 x h
  have hyN:=(hL y (jYa.mp (by rw[e];exact yV ..)).1).1
  rcases ha t (kKd ht hyN)with h | ⟨x,hx,rfl⟩ | ⟨x,hx,hp,hlt⟩
  .exact h
  .refine Classical.byContradiction fun c=>?_
   have:=le x hx ((hL x hx).2.2.2.mpr c)
   lia
  .have:=le x hx hp
   lia
theorem Qkw{b:Pb}{z:TbS}{j:Nat}(hj:j<b.n):0<clk (Vo b.n b.F b.lo z.o z.one (b.F j)) (scl b.n b.F z.o)↔¬Wi b.n b.F b.lo z.o z.one j:=by
 unfold clk Wi
 rw[b.fx.l0 _ hj,show et0 (-1)=1 from rfl,show et0 1=0 from rfl]
 split<;>lia
theorem clk_le{b:Pb}(h:b.Ok){z:TbS}{j:Nat}:clk (Vo b.n b.F b.lo z.o z.one (b.F j)) (scl b.n b.F z.o)<=5*Cy:=by
 have h1:=Qkp h (o:=z.o) (one:=z.one) (h.F j)
 have h2:=Qdz h (o:=z.o)
 have:=cxy
 unfold clk
 rw[show et0 (-1)=1 from rfl,show et0 1=0 from rfl]
 split<;>lia
theorem lck_le{b:Pb}(h:b.Ok){z:TbS}{t:Nat}:b.lo t*scl b.n b.F z.o-Vo b.n b.F b.lo z.o z.one (b.F t)<=5*Cy:=by
 have h1:=Qkp h (o:=z.o) (one:=z.one) (h.F t)
 have h2:=Qbd (h.lo t) (Qdz h (o:=z.o))
 have e:B18*Cx<=Cy:=Dk
 have:=cxy
 lia
theorem Qsd{b:Pb}{z:TbS}{i:Nat}:0<b.lo (b.n+i)*scl b.n b.F z.o-Vo b.n b.F b.lo z.o z.one (b.F (b.n+i))↔¬Wi b.n b.F b.lo z.o z.one (b.n+i):=by
 unfold Wi
 constructor
 .intro h h'
  have:=h'.1
  lia
 .intro h
  exact Classical.byContradiction fun c=>h ⟨Om,fun y=>Om⟩
theorem Vc{H:Hp}{n:Nat}:Walk (Itr 0 n) H (List.range n) (fun k=>V.int ((k:Nat):Int)) where
 go i H1 s hi:=by rw[jV]at hi;exact hi
 stop H1 s:=by rw[jV];exact jY _
 yl i H1 v H2 s:=by
  rintro⟨rfl,rfl⟩ hi
  rw[jV]at hi
  exact⟨rfl,i,jXa hi,congrArg V.int (jZe _)⟩
def Pr2(K:Fg)(D:Addr)(H:Hp)(v:V)(y:Nat×Int):Prop:=∃t,t≠D/\v=.ref t/\SqT K H t [.int ((y.1:Nat):Int),.int y.2]
theorem Pr2.upd{K:Fg}{D:Addr}{H:Hp}{v:V}{y:Nat×Int}{zs:List V}(h:Pr2 K D H v y):Pr2 K D (upd H D (.lst zs)) v y:=by
 obtain⟨t,n,e,h⟩:=h
 refine⟨t,n,e,?_⟩
 rcases h with(h | ⟨o,h⟩) | h
 .exact .inl (.inl (by rw[Qj n];exact h))
 .exact .inl (.inr ⟨o,by rw[Qj n];exact h⟩)
 .exact .inr h
theorem Pr2.same{K:Fg}{D:Addr}{H H':Hp}{v:V}{y:Nat×Int}(h:Pr2 K D H v y)(s:Same H H'):Pr2 K D H' v y:=by
 obtain⟨t,n,e,h⟩:=h
 exact⟨t,n,e,s.tup h⟩
theorem Qco{K:Fg}{D:Addr}{H:Hp}{vs:List V}{ps:List (Nat×Int)}(h:Paired (Pr2 K D H) vs ps):PtA K H vs ps:=Paired.mapP h fun _ _ ⟨t,_,e,y⟩=>⟨t,e,y⟩
theorem Qkx:∀{qs:List Int} {js:List Nat},(∀x∈qs,∃j∈js,x=((j:Nat):Int))->qs=(qs.map Int.toNat).map fun j=>((j:Nat):Int)
 |[],_,_=>rfl
 |q::qs,js,h=>by
  obtain⟨j,_,e⟩:=h q (yV ..)
  rw[yX,yX,<-Qkx fun x hx=>h x (yZ _ hx),e]
  rfl
abbrev sLcs:Stmt:=inClass (top 18) 7
inductive spLcs(K:Fg)(C:Addr)(vs:List V)(H:Hp)(Q:VK)(E:XK):Prop|mk(H0:Hp)(p:Addr)(a:TbA)(b:Pb)(z:TbS)(_:vs=[.ref p])(_:Tab K C H0 H p a b z)(_:∀(g:Addr) (vs':List V) (ps:List (Nat×Int)) (H':Hp),Same H H'->H' g=some (.lst vs')->PtA K H' vs' ps->LkOk b z ps->Q (.ref g) H'):spLcs K C vs H Q E
theorem scLcs:FnScope ["self","worths","lacks"] ["self"] (Qg sLcs):=⟨rfl,rfl,rfl,Dk,rfl,Dk,Dk⟩
theorem okLcs{f C:Addr}{fd:FuncData}(F:Fun K "lacks" "Tableau.lacks" sLcs f fd)(M:Mg mg)(T:TbTxt K mg C){f_worths:Addr}{fd_worths:FuncData}(G_worths:FnOk P w K mg base CX0 1 f_worths fd_worths ["self"] (Qsb K C))(b_worths:Binds K fd_worths ["self"] [])(m_worths:Meth K C "worths" f_worths){f_choice_lack:Addr}{fd_choice_lack:FuncData}(G_choice_lack:FnOk P w K mg base CX0 2 f_choice_lack fd_choice_lack ["self","choice"] (spChL K C))(b_choice_lack:Binds K fd_choice_lack ["self","choice"] [])(m_choice_lack:Meth K C "choice_lack" f_choice_lack){f_row_lack:Addr}{fd_row_lack:FuncData}(G_row_lack:FnOk P w K mg base CX0 1 f_row_lack fd_row_lack ["self","number","worths"] (spRwL K C))(b_row_lack:Binds K fd_row_lack ["self","number","worths"] [])(m_row_lack:Meth K C "row_lack" f_row_lack):FnOk P w K mg base CX0 3 f fd ["self"] (spLcs K C):=by
 refine F.ok scLcs (fun vs H Q E h=>?_) (fun cdv A outer s H vs Q E hr h=>?_)
 .obtain⟨H0,p,a,b,z,rfl,_⟩:=h
  rfl
 obtain⟨H0,p,a,b,z,rfl,S,q⟩:=h
 have hu:(A.deeper (PyProof.Rows.envOfC "Tableau.lacks" (Qg sLcs) s.heap.objs.size f cdv)).units+1<cLine:=zQ (zZ Dc _) hr.un
 refine⟨_,(Qb (Qp (i:=1) scLcs.nd rfl (Or.inr rfl) (Qbm (pv 0) T.cl m_worths G_worths (hr.mono Dc) b_worths .nil Yq))
  (Qb (Zx (i:=2) ["choice","self"] [none,some 0] rfl scLcs.nd rfl (Or.inl rfl) (Xn (Ql (Qcg rfl) rfl M.sorted Qjv (Qa (Qq (pv 0) rfl) Qe))) (fun _ _ _=>(Qx (i:=0) (show(["choice","self"]:List Str).Nodup by decide +kernel) rfl (Or.inl rfl) (Or.inr rfl))) (fun _ _ _=>Xy) (fun _ _ _=>(Xk (Qa (pv 0) (Qa (Xf (pv 1) T.cl m_choice_lack G_choice_lack (hr.mono Dc) b_choice_lack .nil Yq (Qa (pv 0) Qe)) Qe)))))
  (Qb (Xi (Xj (Ql (Ky rfl) rfl M.all Qga (Qa (Zm ["choice","lack"] [none,none] rfl (Xn (pv 2)) (fun _ _ _=>(Yu (K:=K) (i:=0) (j:=1) rfl rfl (show(["choice","lack"]:List Str).Nodup by decide +kernel) rfl rfl rfl rfl)) (fun _ _ _=>Xy) (fun _ _ _=>(Yj Qrg (pv 1) Qf (Qt _)))) Qe))) (Qi (Zx (i:=2) ["number","self","worths"] [none,some 0,some 1] rfl scLcs.nd rfl (Or.inl rfl) (Yo rfl M.range_ (Qa (Ql Qm rfl M.len Xl (Qa (Qq (pv 0) rfl) Qe)) Qe)) (fun _ _ _=>(Qx (i:=0) (show(["number","self","worths"]:List Str).Nodup by decide +kernel) rfl (Or.inl rfl) (Or.inr rfl))) (fun _ _ _=>Xy) (fun _ _ _=>(Xk (Qa (Qn Yi (Qfb (K:=K) rfl (pv 1) rfl) (pv 0)) (Qa (Xf (pv 1) T.cl m_row_lack G_row_lack (hr.mono Dc) b_row_lack .nil Yq (Qa (pv 0) (Qa (pv 2) Qe))) Qe)))))) Qv)
  (Qi (Qs (Zm ["thing","lack"] [none,none] rfl (Xn (pv 2)) (fun _ _ _=>(Yu (K:=K) (i:=0) (j:=1) rfl rfl (show(["thing","lack"]:List Str).Nodup by decide +kernel) rfl rfl rfl rfl)) (fun _ _ _=>(Qdj (Qr Wk (pv 1) Qf (Qt _)))) (fun _ _ _=>(Xk (Qa (pv 0) (Qa (pv 1) Qe)))))))))),?_⟩
 have hz:(1000:Nat)<sizeLine:=Dc
 have n7:=S.ok.n7
 have m7:=S.ok.m7
 have jl:=S.jlen
 refine⟨_,rfl,S.mt ⟨H0,p,a,b,z,rfl,S,fun x H1 s1 hx hW=>?_⟩⟩
 have S1:=S.same s1
 refine⟨_,rfl,S1.inner T ⟨a.inn,_,z.js.map fun j=>((j:Nat):Int),rfl,S1.inn,by rw[xW,xW];rfl,by rw[jQ];lia,.inl (by rw[jQ];lia),fun l qs hl hq hw=>?_⟩⟩
 have hjs:∀x∈qs,∃j∈z.js,x=((j:Nat):Int):=fun x hx=>by
  obtain⟨j,hj,e⟩:=kY.mp (hq.mem_iff.mp hx)
  exact⟨j,hj,e.symm⟩
 obtain⟨ks,hks⟩:∃ks:List Nat,qs=ks.map fun j=>((j:Nat):Int):=⟨_,Qkx hjs⟩
 subst hks
 have hkj:∀j,j∈ks↔j∈z.js:=fun j=>by
  have:=hq.mem_iff (a:=((j:Nat):Int))
  rw[kY,kY]at this
  constructor
  .intro h
   obtain⟨i,h1,h2⟩:=this.mp ⟨j,h,rfl⟩
   rw[show j=i from by lia];exact h1
  .intro h
   obtain⟨i,h1,h2⟩:=this.mpr ⟨j,h,rfl⟩
   rw[show j=i from by lia];exact h1
 have kl:ks.length=z.js.length:=by have:=hq.length_eq;rwa [jQ,jQ]at this
 have kw:ks.Pairwise (·<=·):=(List.pairwise_map.mp hw).imp fun h=>Om
 have sl:=s1.trans (Qd hl (.lst ((ks.map fun j=>((j:Nat):Int)).map V.int)))
 refine⟨l,rfl,⟨_,Qh Qc⟩,fun D hD=>?_⟩
 refine Vf (α:=Nat) (β:=Nat×Int) (xs:=ks) (val:=fun j=>V.int ((j:Nat):Int)) (Pr2 K D) (fun j=>(j,clk (Vo b.n b.F b.lo z.o z.one (b.F j)) (scl b.n b.F z.o))) rfl (Zn (Qh (by rw[Qc,xW];rfl))) Om hD (fun _ s h=>h.same s) (fun h=>h.upd) (fun j hj H2 s2 hD2 P h=>?_) fun H2 ys s2 h2 hp=>?_
 .have S2:=S.same (sl.trans s2)
  refine⟨_,rfl,_,rfl,S2.mt ⟨_,rfl,H0,p,a,b,z,j,rfl,S2,(hkj j).mp hj,by show 2<=sizeLine;decide,fun t ht=>?_⟩⟩
  exact h _ _ (Qd ht _) ⟨t,fun y=>hD2 (by rw[<-y];exact ht),rfl,Qy Qc⟩
 have S2:=S.same (sl.trans s2)
 have hW2:=hW.same ((Qd hl _).trans s2)
 have p2:=Qco hp
 have lz:=Paired.length hp
 rw[jQ]at lz
 have L1ok:∀y∈ks.map (fun j=>(j,clk (Vo b.n b.F b.lo z.o z.one (b.F j)) (scl b.n b.F z.o))),y.1<b.N/\(y.1<b.n->y.1∈z.js)/\y.2<=5*Cy/\(0<y.2↔¬Wi b.n b.F b.lo z.o z.one y.1):=fun y hy=>by
  obtain⟨j,hj,e⟩:=kY.mp hy
  subst e
  have hj':=(hkj j).mp hj
  have hn:=((S.jm j).mp hj').1
  exact⟨by unfold Pb.N;show j<_;lia,fun _=>hj',clk_le S.ok,Qkw hn⟩
 refine Wb (fun σ' H'=>∃(g:Addr) (vs':List V) (L:List (Nat×Int)),σ'=[some (.ref p),some (.ref x),some (.ref g)]/\Same H H'/\SqL K H' g vs'/\PtA K H' vs' L/\L.length<=20/\LkOk b z (L.filter fun y=>decide (0<y.2))) ?_ fun REST=>?_
 .rintro σ' H3 ⟨g,vs',L,rfl,s3,hg,hpt,hf,hk⟩
  refine⟨_,rfl,g,rfl,⟨_,hg⟩,fun D3 hD3=>?_⟩
  refine Qge (K:=K) (xs:=L) (v1:=fun y=>.int ((y.1:Nat):Int)) (v2:=fun y=>.int y.2) (Pr2 K D3) id (fun y=>decide (0<y.2)) rfl (Vg hg hpt) Om hD3 (fun _ s h=>h.same s) (fun h=>h.upd) (fun y hy H4 s4 P h=>⟨_,rfl,_,_,rfl,rfl,_,rfl,h H4 fun _ _ z=>z⟩) (fun y hy c H4 s4 hD4 P h=>?_) fun H4 ys s4 h4 hp4=>?_
  .refine⟨_,rfl,_,rfl,by show 2<=sizeLine;decide,fun t ht=>?_⟩
   exact h _ _ (Qd ht _) ⟨t,fun y=>hD4 (by rw[<-y];exact ht),rfl,Qy Qc⟩
  .rw[kJf]at hp4
   exact q D3 ys _ H4 (s3.trans s4) h4 (Qco hp4) hk
 .refine⟨_,rfl,D,rfl,⟨_,Qh h2⟩,fun D2 hD2=>?_⟩
  refine Wa (K:=K) (xs:=ks.map (fun j=>(j,clk (Vo b.n b.F b.lo z.o z.one (b.F j)) (scl b.n b.F z.o)))) (v1:=fun y=>.int ((y.1:Nat):Int)) (v2:=fun y=>.int y.2) V.bl (fun y=>decide (y.2<=0)) rfl (Vg (Qh h2) p2) (by rw[jQ];lia) hD2 (fun y hy H4 s4 P h=>⟨_,rfl,_,_,rfl,rfl,h H4 fun _ _ z=>z⟩) fun H4 s4 h4=>?_
  refine⟨D2,_,rfl,Qh h4,_,rfl,ite2 (fun e=>?_) (fun e=>?_)⟩
  .have allW:∀j,j<b.n->Wi b.n b.F b.lo z.o z.one j:=fun j hj=>by
    rcases S.all hj with⟨k,hk,e'⟩ | hj'
    .rw[<-e'];exact Qif b.fx S.st hk
    .refine Classical.byContradiction fun c=>?_
     have c2:=(Qkw hj).mpr c
     have:=jJe.mp e (decide (clk (Vo b.n b.F b.lo z.o z.one (b.F j)) (scl b.n b.F z.o)<=0)) (kY.mpr ⟨_,kY.mpr ⟨j,(hkj j).mpr hj',rfl⟩,rfl⟩)
     have:=kK this
     lia
   have S4:=S.same ((sl.trans s2).trans s4)
   obtain⟨us,hu,hup⟩:=S.ro.pa
   have lu:us.length=b.m:=Paired.length hup
   refine⟨_,rfl,S4.parts T ⟨_,_,rfl,.inl (S4.ba.seq hu),_,rfl,Om,Om,fun D5 hD5=>?_⟩⟩
   have em:(((us.length:Nat):Int)).toNat=b.m:=by rw[zK];exact lu
   rw[em]
   refine Vf (α:=Nat) (β:=Nat×Int) (xs:=List.range b.m) (val:=fun i=>V.int ((i:Nat):Int)) (Pr2 K D5) (fun i=>(b.n+i,b.lo (b.n+i)*scl b.n b.F z.o-Vo b.n b.F b.lo z.o z.one (b.F (b.n+i)))) rfl Vc (by rw[jV];lia) hD5 (fun _ s h=>h.same s) (fun h=>h.upd) (fun i hi H6 s6 hD6 P h=>?_) fun H6 ys6 s6 h6 hp6=>?_
   .have S6:=S4.same s6
    refine⟨_,rfl,S6.size T ⟨_,rfl,_,_,rfl,rfl,_,rfl,S6.mt ⟨_,rfl,_,rfl,H0,p,a,b,z,i,x,rfl,S6,xX.mp hi,hW2.same (s4.trans s6),fun H7 s7=>⟨by show 2<=sizeLine;decide,fun t ht=>?_⟩⟩⟩⟩
    refine h _ _ (s7.trans (Qd ht _)) ⟨t,fun y=>?_,rfl,?_⟩
    .cases e6:H6 D5 with
     |none=>exact hD6 e6
     |some u=>rw[y]at ht;rw[s7 _ _ e6]at ht;cases ht
    .rw[show((b.n+i:Nat):Int)=((b.n:Nat):Int)+((i:Nat):Int)from kKe _ _]
     exact Qy Qc
   .refine REST _ _ ⟨D5,ys6,_,rfl,((sl.trans s2).trans s4).trans s6,Qh h6,Qco hp6,by rw[jQ,jV];lia,Qkv ?_ (fun y hy=>?_) (by rw[jQ,jV];lia) fun t ht=>?_⟩
    .rw[List.pairwise_map]
     exact List.pairwise_lt_range.imp fun h=>Om
    .obtain⟨i,hi,e'⟩:=kY.mp hy
     subst e'
     have hi':=xX.mp hi
     refine⟨by unfold Pb.N;show b.n+i<_;lia,fun y=>absurd y (by show ¬b.n+i<b.n;lia),lck_le S.ok,?_⟩
     exact Qsd
    .by_cases c:t<b.n
     .exact .inl (allW t c)
     .unfold Pb.N at ht
      refine .inr (.inl ⟨_,kY.mpr ⟨t-b.n,xX.mpr Om,rfl⟩,by show b.n+(t-b.n)=t;lia⟩)
  .refine REST _ _ ⟨D,ys,_,rfl,(sl.trans s2).trans s4,s4.seq (Qh h2),p2.same s4,by rw[jQ];lia,Qkv ?_ L1ok (by rw[jQ];lia) fun t ht=>?_⟩
   .rw[List.pairwise_map];exact kw
   .by_cases c:t<b.n
    .rcases S.all c with⟨k,hk,e'⟩ | hj'
     .left;rw[<-e'];exact Qif b.fx S.st hk
     .exact .inr (.inl ⟨_,kY.mpr ⟨t,(hkj t).mpr hj',rfl⟩,rfl⟩)
    .refine .inr (.inr (Classical.byContradiction fun h=>e (jJe.mpr fun v hv=>?_)))
     obtain⟨y,hy,rfl⟩:=kY.mp hv
     obtain⟨j,hj,rfl⟩:=kY.mp hy
     refine kW (Int.not_lt.mp fun hp=>h ⟨_,hy,hp,?_⟩)
     have:=((S.jm j).mp ((hkj j).mp hj)).1
     show j<t
     lia
end
section
variable{K:Fg}{H:Hp}{x:Addr}{n k:Nat}{f:Nat->Int}
theorem IlA.ixl{Q:V->Prop}(h:IlA H x (n+1) f)(q:Q (.int (f n))):∃p xs i u,V.ref x=.ref p/\V.int (-1)=.int i/\SqL K H p xs/\atI xs i=some u/\Q u:=⟨x,_,_,_,rfl,rfl,Qh h,rlast,q⟩
theorem IlA.setl{Q:Hp->Prop}(h:IlA H x (n+1) f){v:Int}(q:∀o,IlA (upd H x o) x (n+1) (fun j=>if j=n then v else f j)->Q (upd H x o)):∃p xs i j,V.ref x=.ref p/\V.int (-1)=.int i/\H p=some (.lst xs)/\ixN xs.length i=some j/\Q (upd H p (.lst (xs.set j (.int v)))):=⟨x,_,_,n,rfl,rfl,h,rixl,q _ IlA.set⟩
theorem IlA.setk{Q:Hp->Prop}(h:IlA H x n f)(hk:k<n){v:Int}(q:∀o,IlA (upd H x o) x n (fun j=>if j=k then v else f j)->Q (upd H x o)):∃p xs i j,V.ref x=.ref p/\V.int ((k:Nat):Int)=.int i/\H p=some (.lst xs)/\ixN xs.length i=some j/\Q (upd H p (.lst (xs.set j (.int v)))):=⟨x,_,_,k,rfl,rfl,h,rix hk,q _ IlA.set⟩
theorem IlA.upd{y:Addr}{o:HO}(h:IlA H x n f)(ne:x≠y):IlA (upd H y o) x n f:=by
 unfold IlA
 rw[Qj ne]
 exact h
end
def lwF(b:Pb)(z:TbS)(j k:Nat):Int:=LnF b.n (Ln b.n b.F z.o (b.F j)) (Vo b.n b.F b.lo z.o z.one (b.F j)) k
def lrw(b:Pb)(i j:Nat):Int:=(b.row i).1.getD j 0
theorem Qnv{b:Pb}{i j:Nat}:b.F (b.n+i) j=lrw b i j:=by
 unfold Pb.F lrw
 rw[if_neg Om,show b.n+i-b.n=i from by lia]
def ls1(b:Pb)(z:TbS)(i k:Nat):Int:=Su b.n fun j=>lrw b i j*(if j∈z.js then lwF b z j k else 0)
section
variable{K:Fg}{C:Addr}{H0 H:Hp}{p:Addr}{a:TbA}{b:Pb}{z:TbS}
def lps(b:Pb)(z:TbS)(i k c:Nat):Int:=if c<b.n then ls1 b z i c+(if c<k/\z.o c<b.n then lrw b i (z.o c)*scl b.n b.F z.o else 0)else ls1 b z i c+Su k fun k'=>if z.o k'<b.n/\z.one k'=true then lrw b i (z.o k')*scl b.n b.F z.o else 0
theorem Qnw(c:Nat){i:Nat}:lps b z i 0 c=ls1 b z i c:=by
 unfold lps
 by_cases h:c<b.n
 .rw[if_pos h,if_neg (fun y=>absurd y.1 (xK _)),wJ]
 .rw[if_neg h]
  exact wJ _
theorem Qpx{i k c:Nat}(hk:k<b.n)(hc:c<b.n+1)(ho:z.o k<b.n):lps b z i (k+1) c=if c=b.n then lps b z i k c+(if z.one k=true then lrw b i (z.o k)*scl b.n b.F z.o else 0)else if c=k then lps b z i k c+lrw b i (z.o k)*scl b.n b.F z.o else lps b z i k c:=by
 unfold lps
 by_cases h:c=b.n
 .subst h
  rw[if_neg (wW _),if_pos rfl,if_neg (wW _)]
  show _+(_+if z.o k<b.n/\z.one k=true then _ else _)=_
  by_cases d:z.one k=true
  .rw[if_pos ⟨ho,d⟩,if_pos d];lia
  .rw[if_neg (fun y=>d y.2),if_neg d];lia
 .have hc':c<b.n:=Om
  rw[if_pos hc',if_neg h,if_pos hc']
  by_cases e:c=k
  .subst e
   rw[if_pos ⟨jJd _,ho⟩,if_pos rfl,if_neg (fun y=>absurd y.1 (wW _)),wJ]
  .rw[if_neg e]
   by_cases d:c<k/\z.o c<b.n
   .rw[if_pos d,if_pos ⟨Om,d.2⟩]
   .rw[if_neg d,if_neg (fun y=>d ⟨Om,y.2⟩)]
theorem lps_no{i k c:Nat}(hk:k<b.n)(ho:¬z.o k<b.n):lps b z i (k+1) c=lps b z i k c:=by
 unfold lps
 by_cases h:c<b.n
 .rw[if_pos h,if_pos h]
  by_cases d:c<k/\z.o c<b.n
  .rw[if_pos d,if_pos ⟨Om,d.2⟩]
  .rw[if_neg d,if_neg (fun y=>d ⟨by
    have:c≠k:=fun e=>ho (by rw[<-e];exact y.2)
    lia,y.2⟩)]
 .rw[if_neg h,if_neg h]
  show _+(_+if z.o k<b.n/\z.one k=true then _ else _)=_
  rw[if_neg (fun y=>ho y.1),wJ]
theorem Tab.split(S:Tab K C H0 H p a b z){g w:Nat->Int}(hw:∀k,k<b.n->z.o k<b.n->w (z.o k)=g k)(f:Nat->Int):(Su b.n fun j=>f j*w j)=(Su b.n fun j=>f j*(if j∈z.js then w j else 0))+Su b.n fun k=>if z.o k<b.n then f (z.o k)*g k else 0:=by
 have e:(Su b.n fun k=>if z.o k<b.n then f (z.o k)*g k else 0)=Su b.n fun j=>Su b.n fun k=>if z.o k=j then f j*w j else 0:=by
  rw[Wd]
  refine Xc fun k hk=>?_
  by_cases c:z.o k<b.n
  .rw[if_pos c,Zc (k:=z.o k) c fun j _ ne=>if_neg fun y=>ne y.symm,if_pos rfl,hw k hk c]
  .rw[if_neg c,Yr fun j hj=>if_neg fun y=>c Om]
 rw[e,<-Jw]
 refine Xc fun j hj=>?_
 by_cases c:j∈z.js
 .rw[if_pos c,Yr fun k hk=>if_neg fun y=>((S.jm j).mp c).2 k hk y,wJ]
 .rw[if_neg c,zV,jZe]
  rcases S.all hj with⟨k,hk,ek⟩ | y
  .rw[Zc (k:=k) hk fun i hi ne=>if_neg fun y=>ne (S.st.ba.inj hi hk (y.trans ek.symm)),if_pos ek]
  .exact absurd y c
theorem Tab.lnRow(S:Tab K C H0 H p a b z){i k:Nat}(hk:k<b.n):ls1 b z i k+(if z.o k<b.n then lrw b i (z.o k)*scl b.n b.F z.o else 0)=Ln b.n b.F z.o (b.F (b.n+i)) k:=by
 rw[Qmo b.fx.F1 hk,S.split (g:=fun k'=>if k'=k then scl b.n b.F z.o else 0) fun k' hk' _=>We hk' hk]
 congr 1
 .unfold ls1
  refine Xc fun j hj=>?_
  rw[Qnv]
  unfold lwF
  rw[Jj hk]
 .rw[Zc (k:=k) hk fun k' _ ne=>by rw[if_neg ne,zV];split<;>rfl,if_pos rfl,Qnv]
theorem Tab.voRow(S:Tab K C H0 H p a b z){i:Nat}:ls1 b z i b.n+(Su b.n fun k=>if z.o k<b.n/\z.one k=true then lrw b i (z.o k)*scl b.n b.F z.o else 0)=Vo b.n b.F b.lo z.o z.one (b.F (b.n+i)):=by
 rw[<-Qip b.fx,S.split (g:=fun k=>scl b.n b.F z.o*en b.lo z.o z.one k) fun k hk _=>Qcs hk]
 congr 1
 .unfold ls1
  refine Xc fun j hj=>?_
  rw[Qnv]
  unfold lwF
  rw[Ju]
 .refine Xc fun k hk=>?_
  rw[Qnv]
  by_cases c:z.o k<b.n
  .rw[if_pos c]
   unfold en
   by_cases d:z.one k=true
   .rw[if_pos d,if_pos ⟨c,d⟩,jKe]
   .rw[if_neg d,if_neg (fun y=>d y.2),b.fx.l0 _ c,zV,zV]
  .rw[if_neg c,if_neg (fun y=>c y.1)]
theorem Tab.partE(S:Tab K C H0 H p a b z){i:Nat}(hi:i<b.m){v:V}(hv:v=.int ((i:Nat):Int)){Q:V->Prop}(q:∀l ts,SqL K H0 l ts->PtA K H0 ts (prt (b.row i))->Q (.ref l)):∃p xs k u,V.ref a.pa=.ref p/\v=.int k/\SqL K H p xs/\atI xs k=some u/\Q u:=by
 subst hv
 exact S.part hi q
theorem Tab.leastE(S:Tab K C H0 H p a b z){i:Nat}(hi:i<b.m){v:V}(hv:v=.int ((i:Nat):Int)){Q:V->Prop}(q:Q (.int (b.lo (b.n+i)))):∃p xs k u,V.ref a.le=.ref p/\v=.int k/\SqL K H p xs/\atI xs k=some u/\Q u:=by
 subst hv
 exact S.least hi q
theorem Qky(h:b.Ok)(i j:Nat):In18 (lrw b i j):=(h.rowIn i j).1
end
abbrev sLTo:Stmt:=inClass (top 18) 14
inductive spLTo(K:Fg)(C:Addr)(vs:List V)(H:Hp)(Q:VK)(E:XK):Prop|mk(H0:Hp)(p:Addr)(a:TbA)(b:Pb)(z:TbS)(t:Nat)(side:Int)(_:vs=[.ref p,.int t,.int side])(_:Tab K C H0 H p a b z)(_:t<b.N)(_:(t<b.n->t∈z.js))(_:(side=1\/(side=-1/\t<b.n)))(_:∀(x:Addr) (H':Hp),Same H H'->H x=none->LnA H' x b.n (Ln b.n b.F z.o (b.F t)) (Vo b.n b.F b.lo z.o z.one (b.F t)-et b.lo t side*scl b.n b.F z.o)->Q (.ref x) H'):spLTo K C vs H Q E
section
variable{P:Program}{w:World}{K:Fg}{mg:Str->Option Value}{base:Heap}
theorem scLTo:FnScope ["self","thing","side","line","many","choice","number","column","other"] ["self","thing","side"] (Qg sLTo):=⟨rfl,rfl,rfl,Dk,rfl,Dk,Dk⟩
theorem okLTo{f C:Addr}{fd:FuncData}(F:Fun K "line_to" "Tableau.line_to" sLTo f fd)(M:Mg mg)(T:TbTxt K mg C){f_end:Addr}{fd_end:FuncData}(G_end:FnOk P w K mg base CX0 1 f_end fd_end ["self","choice","side"] (Qkr K C))(b_end:Binds K fd_end ["self","choice","side"] [])(m_end:Meth K C "end" f_end):FnOk P w K mg base CX0 2 f fd ["self","thing","side"] (spLTo K C):=by
 refine F.ok scLTo (fun vs H Q E h=>?_) (fun cdv A outer s H vs Q E hr h=>?_)
 .obtain⟨H0,p,a,b,z,t,side,rfl,_⟩:=h
  rfl
 obtain⟨H0,p,a,b,z,t,side,rfl,S,ht,hj,hs,q⟩:=h
 have hu:(A.deeper (PyProof.Rows.envOfC "Tableau.line_to" (Qg sLTo) s.heap.objs.size f cdv)).units+1<cLine:=zQ (zZ Dc _) hr.un
 refine⟨_,(Qb (Xi (Qr Jo (pv 1) (Qq (pv 0) rfl) (Qt _)) (Qb (Qp (i:=3) scLTo.nd rfl (Or.inl rfl) (Qz Xv rfl M.list_ Yv (Qa (Jp hu (Qq (pv 0) rfl) (pv 1) (fun _ _=>rfl)) Qe)))
  (Qb (Ve (pv 3) (Ze Ya Qf) Kd (Xf (pv 0) T.cl m_end G_end (hr.mono Dc) b_end .nil Yq (Qa (pv 1) (Qa (pv 2) Qe))) Qpn set_list)
  (Qi (Qs (pv 3))))) Qv)
  (Qb (Qp (i:=3) scLTo.nd rfl (Or.inl rfl) (Qn Wq (Xz (Qa Qf Qe)) (Qn Yi (Qq (pv 0) rfl) Qf)))
  (Qb (Qp (i:=4) scLTo.nd rfl (Or.inl rfl) (Qn Wq (Xz (Qa Qf Qe)) (Qq (pv 0) rfl)))
  (Qb (Yf PassesOwn.never rfl (Xn (Qo Qw (Qq (pv 0) rfl) (Qn Xs (pv 1) (Qq (pv 0) rfl)) (fun _ _=>rfl))) (Qft rfl (Jh (Qx (i:=5) scLTo.nd rfl (Or.inl rfl) (Or.inl rfl)) (Jh (Qx (i:=6) scLTo.nd rfl (Or.inr rfl) (Or.inl rfl)) Qbk))) (Qb (Js (pv 6) (Jx (pv 4) (pv 5) set_list))
  (Qi (Xi (Qiv (Qpt hu (pv 5) (Qq (pv 0) rfl))) (Qi (Zx (i:=3) ["here","more","number"] [none,none,some 6] rfl scLTo.nd rfl (Or.inl rfl) (Qax true true rfl M.zip_ (Qa (pv 3) (Qa (Jp hu (Qq (pv 0) rfl) (pv 5) (fun _ _=>rfl)) Qe))) (fun _ _ _=>(Yu (K:=K) (i:=0) (j:=1) rfl rfl (show(["here","more","number"]:List Str).Nodup by decide +kernel) rfl rfl rfl rfl)) (fun _ _ _=>Xy) (fun _ _ _=>(Qn Yi (pv 0) (Qn Xu (pv 2) (pv 1)))))) Qv))))
  (Qb (Yf PassesOwn.never rfl (Qcb true rfl M.enumerate_ (Qa (Qq (pv 0) rfl) Qe)) (Yu (K:=K) (i:=7) (j:=8) rfl rfl scLTo.nd rfl rfl rfl rfl) (Qi (Xi (Qr Jo (pv 8) (Qq (pv 0) rfl) (Qt _)) (Qb (Ve (pv 3) (pv 7) Kd (Qn Xu (Qo Qw (pv 4) (pv 8) (fun _ _=>rfl)) (Qq (pv 0) rfl)) Qar set_list)
  (Qi (Xi (Xj (Qo Qw (Qq (pv 0) rfl) (pv 7) (fun _ _=>rfl))) (Qi (Ve (pv 3) (Ze Ya Qf) Kd (Qn Xu (Qo Qw (pv 4) (pv 8) (fun _ _=>rfl)) (Qq (pv 0) rfl)) Qar set_list)) Qv))) Qv)))
  (Qb (Ve (pv 3) (Ze Ya Qf) Kd (Qn Xu (Qo Qw (Qq (pv 0) rfl) (Qn Xs (pv 1) (Qq (pv 0) rfl)) (fun _ _=>rfl)) (Qq (pv 0) rfl)) Qpn set_list)
  (Qi (Qs (pv 3))))))))),?_⟩
 have hz:(1000:Nat)<sizeLine:=Dc
 have n7:=S.ok.n7
 have m7:=S.ok.m7
 unfold Pb.N at ht
 refine⟨_,rfl,_,rfl,S.size T ⟨_,_,rfl,rfl,_,rfl,ite2 (fun e=>?_) (fun e=>?_)⟩⟩
 .have e':t<b.n:=by have:=kK e;lia
  have hl:=S.lns t (hj e')
  refine⟨_,rfl,S.inner T ⟨_,rfl,S.ing (hj e') ⟨_,_,rfl,.inl (Qh hl),fun x hx=>?_⟩⟩⟩
  have s1:=Qd hx (.lst ((List.range (b.n+1)).map fun k=>V.int (LnF b.n (Ln b.n b.F z.o (b.F t)) (Vo b.n b.F b.lo z.o z.one (b.F t)) k)))
  have h1:IlA (upd H x (.lst ((List.range (b.n+1)).map fun k=>V.int (LnF b.n (Ln b.n b.F z.o (b.F t)) (Vo b.n b.F b.lo z.o z.one (b.F t)) k)))) x (b.n+1) (LnF b.n (Ln b.n b.F z.o (b.F t)) (Vo b.n b.F b.lo z.o z.one (b.F t))):=Qc
  have S1:=S.same s1
  refine⟨_,rfl,_,rfl,h1.ixl ⟨_,rfl,S1.mt ⟨_,rfl,_,rfl,H0,p,a,b,z,t,side,rfl,S1,_,_,rfl,rfl,h1.setl fun o h2=>⟨_,rfl,q x _ (Xg s1 hx) hx (h2.congr fun k hk=>?_)⟩⟩⟩⟩
  rw[Ju,show et b.lo t side=et0 side from by unfold et et0;rw[b.fx.l0 _ e']]
  show(if k=b.n then Vo b.n b.F b.lo z.o z.one (b.F t)-et0 side*scl b.n b.F z.o else LnF b.n (Ln b.n b.F z.o (b.F t)) (Vo b.n b.F b.lo z.o z.one (b.F t)) k)=_
  unfold LnF
  by_cases c:k<b.n
  .rw[if_neg (show ¬k=b.n by lia),if_pos c,if_pos c]
  .rw[if_pos (show k=b.n by lia),if_neg c]
 .have e':b.n<=t:=kKa fun h=>e (kW Om)
  obtain⟨i,rfl⟩:∃i,t=b.n+i:=⟨t-b.n,Om⟩
  have hi:i<b.m:=Om
  have er:((b.n+i:Nat):Int)-((b.n:Nat):Int)=((i:Nat):Int):=Om
  have hs1:side=1:=Om
  have rl:=S.ok.rlen hi
  refine⟨by show 1<=sizeLine;decide,fun g0 hg0=>?_⟩
  have s0:=Qd hg0 (.lst [V.int 0])
  refine⟨_,rfl,(S.same s0).size T ⟨_,_,rfl,rfl,g0,_,_,rfl,rfl,Qc,Om,Om,by show 1*(((b.n:Nat):Int)+1).toNat<=sizeLine;lia,fun g hg=>?_⟩⟩
  rw[show(((b.n:Nat):Int)+1).toNat=b.n+1 from by lia,repR]
  have none_of:∀{Ha Hb:Hp} {c:Addr},Same Ha Hb->Hb c=none->Ha c=none:=fun{Ha Hb c} s h=>by
   cases e:Ha c with
   |none=>rfl
   |some u=>rw[s _ _ e]at h;cases h
  have hg1:=none_of s0 hg
  have s1:Same H (upd (upd H g0 (.lst [V.int 0])) g (.lst ((List.range (b.n+1)).map fun _=>V.int 0))):=Xg s0 hg1
  have hl1:IlA (upd (upd H g0 (.lst [V.int 0])) g (.lst ((List.range (b.n+1)).map fun _=>V.int 0))) g (b.n+1) (fun _=>0):=Qc
  generalize upd (upd H g0 (.lst [V.int 0])) g (.lst ((List.range (b.n+1)).map fun _=>V.int 0))=H1 at s1 hl1
  refine⟨by show 1<=sizeLine;decide,fun g2 hg2=>?_⟩
  have s2:=s1.trans (Qd hg2 (.lst [V.int 0]))
  refine⟨_,rfl,(S.same s2).size T ⟨g2,_,_,rfl,rfl,Qc,Om,Om,by rw[zK];show 1*b.n<=sizeLine;lia,fun y hy=>?_⟩⟩
  rw[zK,repR]
  have hy1:=none_of s2 hy
  have ny:g≠y:=Qk (Qd hg2 (.lst [V.int 0]) _ _ hl1) hy
  have s3:Same H (upd (upd H1 g2 (.lst [V.int 0])) y (.lst ((List.range b.n).map fun _=>V.int 0))):=Xg s2 hy1
  have hl3:IlA (upd (upd H1 g2 (.lst [V.int 0])) y (.lst ((List.range b.n).map fun _=>V.int 0))) g (b.n+1) (fun _=>0):=((Qd hg2 _).trans (Qd hy _)) _ _ hl1
  have hm3:IlA (upd (upd H1 g2 (.lst [V.int 0])) y (.lst ((List.range b.n).map fun _=>V.int 0))) y b.n (fun _=>0):=Qc
  generalize upd (upd H1 g2 (.lst [V.int 0])) y (.lst ((List.range b.n).map fun _=>V.int 0))=H3 at s3 hl3 hm3
  have S3:=S.same s3
  refine⟨_,rfl,S3.parts T ⟨_,rfl,_,rfl,S3.size T ⟨_,_,rfl,rfl,S3.partE hi (congrArg V.int er) ?_⟩⟩⟩
  intro l ts h1 h2
  have lp:ts.length=(prt (b.row i)).length:=Paired.length h2
  have nod:∀j,j<b.n->j∉(prt (b.row i)).map (·.1)->lrw b i j=0:=fun j hj h=>Classical.byContradiction fun c=>h (kY.mpr ⟨(j,lrw b i j),kY.mpr ⟨j,jYa.mpr ⟨xX.mpr (by rw[rl];exact hj),show(!decide (lrw b i j=0))=true by rw[jQe c];rfl⟩,rfl⟩,rfl⟩)
  let Pv7:Nat->St->Hp->Prop:=fun k σ H4=>∃(x:Addr) (u5 u6:Option V),σ=[some (.ref p),some (.int ((b.n+i:Nat):Int)),some (.int side),some (.ref x),some (.ref y),u5,u6,none,none]/\Same H H4/\H x=none/\x≠y/\IlA H4 x (b.n+1) (fun c=>(((prt (b.row i)).take k).map fun q=>q.2*(if q.1∈z.js then lwF b z q.1 c else 0)).sum)/\IlA H4 y b.n (fun j=>if j∈((prt (b.row i)).take k).map (·.1)then lrw b i j else 0)
  refine⟨l,rfl,⟨_,S3.ba.seq h1⟩,Ym (xs:=ts) Pv7 ⟨g,none,none,rfl,s3,hg1,ny,hl3,hm3.congr fun j _=>by rw[List.take_zero,jYb,if_neg (fun y=>nomatch y)]⟩ (fun k σ H4 _ ⟨x,_,_,_,s4,_⟩=>s4.seq (S.ba.seq h1)) ?_ ?_⟩
  .rintro k v σ H4 e1 ⟨x,u5,u6,rfl,s4,hx,nx,hl,hm⟩
   obtain⟨q',eq,T',rfl,hT⟩:=L2.Paired.getR h2 e1
   obtain⟨qn,qv⟩:=Qks (yQ eq)
   rw[rl]at qn
   have qv':q'.2=lrw b i q'.1:=qv
   refine⟨T',_,rfl,s4.tup (S.ba.tup hT),rfl,_,_,rfl,_,_,rfl,rfl,?_⟩
   refine⟨_,rfl,_,rfl,_,rfl,hm.setk qn fun o hm2=>?_⟩
   have s5:=Xg (o:=o) s4 hy1
   have hl5:=hl.upd (o:=o) nx
   have hmk:IlA (upd H4 y o) y b.n (fun j=>if j∈((prt (b.row i)).take (k+1)).map (·.1)then lrw b i j else 0):=hm2.congr fun j hj=>by
    rw[Qae eq,yK,yX,jYb]
    by_cases c:j=q'.1
    .rw[if_pos c,if_pos (zY.mpr (.inr (yW.mpr c))),c,qv']
    .rw[if_neg c]
     by_cases d:j∈((prt (b.row i)).take k).map (·.1)
     .rw[if_pos d,if_pos (zY.mpr (.inl d))]
     .rw[if_neg d,if_neg (fun y=>by rcases zY.mp y with y | y;exact d y;exact c (yW.mp y))]
   have sums:∀c,(((prt (b.row i)).take (k+1)).map fun q=>q.2*(if q.1∈z.js then lwF b z q.1 c else 0)).sum=(((prt (b.row i)).take k).map fun q=>q.2*(if q.1∈z.js then lwF b z q.1 c else 0)).sum+q'.2*(if q'.1∈z.js then lwF b z q'.1 c else 0):=fun c=>by
    rw[Qae eq,yK,kZc,yX,jYb,jJc,List.sum_nil,wJ]
   have S5:=S.same s5
   by_cases c:q'.1∈z.js
   .refine⟨_,rfl,_,rfl,S5.inner T ⟨a.inn,_,rfl,.inl ⟨_,Sum.inl ((q'.1:Nat):Int),.inl S5.inn,rfl,(valV_js.trans (if_pos c)).symm⟩,_,rfl,iteT ?_⟩⟩
    have hln:=S5.lns _ c
    refine⟨_,rfl,_,rfl,S5.inner T ⟨_,rfl,S5.ing c ⟨x,z.ad q'.1,rfl,⟨_,Qh hl5⟩,⟨_,Qh hln⟩,fun D hD=>?_⟩⟩⟩
    refine Wa (K:=K) (xs:=List.range (b.n+1)) (v1:=fun c=>V.int ((((prt (b.row i)).take k).map fun q=>q.2*(if q.1∈z.js then lwF b z q.1 c else 0)).sum)) (v2:=fun c=>V.int (lwF b z q'.1 c)) V.int (fun c=>(((prt (b.row i)).take k).map fun q=>q.2*(if q.1∈z.js then lwF b z q.1 c else 0)).sum+q'.2*lwF b z q'.1 c) rfl (Vb (m1:=true) (m2:=true) (fun H1 s=>s.seq (Qh hl5)) (fun H1 s=>s.seq (Qh hln))) (by rw[jV];lia) hD (fun c hc H6 s6 P h=>?_) fun H6 s6 h6=>?_
    .exact⟨_,rfl,_,rfl,_,rfl,_,_,rfl,rfl,cmB (by rw[qv'];exact Qky S.ok _ _),_,_,rfl,rfl,h H6 fun _ _ z=>z⟩
    .have hl6:IlA H6 D (b.n+1) (fun c=>(((prt (b.row i)).take k).map fun q=>q.2*(if q.1∈z.js then lwF b z q.1 c else 0)).sum+q'.2*lwF b z q'.1 c):=by rw[xW]at h6;exact h6
     refine⟨D,_,_,rfl,s5.trans s6,none_of s5 hD,fun y=>?_,hl6.congr fun c' _=>?_,s6 _ _ hmk⟩
     .rw[y]at hD;rw[hmk]at hD;cases hD
     .rw[sums,if_pos c]
   .refine⟨_,rfl,_,rfl,S5.inner T ⟨a.inn,_,rfl,.inl ⟨_,Sum.inl ((q'.1:Nat):Int),.inl S5.inn,rfl,(valV_js.trans (if_neg c)).symm⟩,_,rfl,iteF ?_⟩⟩
    exact⟨x,_,_,rfl,s5,hx,nx,hl5.congr fun c' _=>by rw[sums,if_neg c,zV,wJ],hmk⟩
  .rintro σ H4 ⟨x,u5,u6,rfl,s4,hx,nx,hl,hm⟩
   rw[lp,wY]at hl hm
   have hl4:IlA H4 x (b.n+1) (ls1 b z i):=hl.congr fun c _=>by
    rw[Qkt (W:=fun j=>if j∈z.js then lwF b z j c else 0),rl]
    rfl
   have hm4:IlA H4 y b.n (lrw b i):=hm.congr fun j hj=>by
    by_cases c:j∈(prt (b.row i)).map (·.1)
    .rw[if_pos c]
    .rw[if_neg c,nod j hj c]
   clear hl hm
   have S4:=S.same s4
   refine⟨_,rfl,S4.outer T ⟨a.ou,rfl,⟨_,Qh S4.ou⟩,Qcc (m:=true) (K:=K) (a:=a.ou) (xs:=(List.range b.n).map fun k=>V.int ((z.o k:Nat):Int)) (fun k σ H5=>∃u7 u8:Option V,k<=b.n/\σ=[some (.ref p),some (.int ((b.n+i:Nat):Int)),some (.int side),some (.ref x),some (.ref y),u5,u6,u7,u8]/\Same H H5/\IlA H5 y b.n (lrw b i)/\IlA H5 x (b.n+1) (lps b z i k))
    ⟨none,none,jQc _,rfl,s4,hm4,hl4.congr fun c _=>(Qnw c).symm⟩ (fun k σ H5 _ ⟨_,_,_,_,s5,_⟩=>Qh (S.same s5).ou) ?_ ?_⟩⟩
   .rintro k v σ H5 T' e1 ⟨u7,u8,hk,rfl,s5,hm5,hl5⟩ hT
    have hk':k<b.n:=by have:=(jW.mp e1).1;rw[jQ,jV]at this;exact this
    rw[rgl hk']at e1
    cases e1
    have s6:=s5.trans (Qd hT (.tup [V.int ((k:Nat):Int),V.int ((z.o k:Nat):Int)]))
    have hl6:IlA (upd H5 T' (.tup [V.int ((k:Nat):Int),V.int ((z.o k:Nat):Int)])) x (b.n+1) (lps b z i k):=Qd hT _ _ _ hl5
    have hm6:IlA (upd H5 T' (.tup [V.int ((k:Nat):Int),V.int ((z.o k:Nat):Int)])) y b.n (lrw b i):=Qd hT _ _ _ hm5
    refine⟨T',_,rfl,Qy Qc,rfl,_,_,rfl,_,_,rfl,rfl,?_⟩
    generalize upd H5 T' (.tup [V.int ((k:Nat):Int),V.int ((z.o k:Nat):Int)])=H6 at s6 hl6 hm6⊢
    have S6:=S.same s6
    refine⟨_,rfl,_,rfl,S6.size T ⟨_,_,rfl,rfl,_,rfl,ite2 (fun e=>?_) (fun e=>?_)⟩⟩
    .have e':z.o k<b.n:=by have:=kK e;lia
     have kn:k≠b.n:=Om
     refine⟨_,rfl,_,rfl,ixR hl6 Om ⟨_,rfl,_,rfl,ixR hm6 e' ⟨_,rfl,S6.scale T ⟨_,_,rfl,rfl,cmB (Qky S.ok _ _),_,_,rfl,rfl,hl6.setk Om fun o1 h7=>?_⟩⟩⟩⟩
     have s7:=Xg (o:=o1) s6 hx
     have hm7:=hm6.upd (o:=o1) (Ne.symm nx)
     have S7:=S.same s7
     refine⟨_,rfl,S7.ones T ⟨_,rfl,S7.nix hk' ⟨_,rfl,ite2 (fun d=>?_) (fun d=>?_)⟩⟩⟩
     .refine⟨_,rfl,_,rfl,h7.ixl ⟨_,rfl,_,rfl,ixR hm7 e' ⟨_,rfl,S7.scale T ⟨_,_,rfl,rfl,cmB (Qky S.ok _ _),_,_,rfl,rfl,h7.setl fun o2 h8=>⟨_,_,hk',rfl,Xg s7 hx,hm7.upd (Ne.symm nx),h8.congr fun c hc=>?_⟩⟩⟩⟩⟩
      rw[Qpx hk' hc e']
      by_cases c1:c=b.n
      .rw[if_pos c1,if_pos c1,if_neg (fun y=>kn y.symm),if_pos d,c1]
      .rw[if_neg c1,if_neg c1]
       by_cases c2:c=k
       .rw[if_pos c2,if_pos c2,c2]
       .rw[if_neg c2,if_neg c2]
     .refine⟨_,_,hk',rfl,s7,hm7,h7.congr fun c hc=>?_⟩
      rw[Qpx hk' hc e',if_neg d,wJ]
      by_cases c1:c=b.n
      .rw[if_pos c1,if_neg Om]
      .rw[if_neg c1]
       by_cases c2:c=k
       .rw[if_pos c2,if_pos c2,c2]
       .rw[if_neg c2,if_neg c2]
    .have e':¬z.o k<b.n:=fun y=>e (kW Om)
     exact⟨_,_,hk',rfl,s6,hm6,hl6.congr fun c hc=>(lps_no hk' e').symm⟩
   .rintro σ H5 ⟨u7,u8,hk,rfl,s5,hm5,hl5⟩
    rw[jQ,jV]at hl5
    have S5:=S.same s5
    refine⟨_,rfl,_,rfl,hl5.ixl ⟨_,rfl,S5.leasts T ⟨_,rfl,_,rfl,S5.size T ⟨_,_,rfl,rfl,S5.leastE hi (congrArg V.int er) ⟨_,rfl,S5.scale T ⟨_,_,rfl,rfl,cmB (S.ok.lo _),_,_,rfl,rfl,hl5.setl fun o1 h6=>⟨_,rfl,q x _ (Xg s5 hx) hx (h6.congr fun c hc=>?_)⟩⟩⟩⟩⟩⟩⟩
    show(if c=b.n then lps b z i b.n b.n-b.lo (b.n+i)*scl b.n b.F z.o else lps b z i b.n c)=LnF b.n _ _ c
    rw[show et b.lo (b.n+i) side=b.lo (b.n+i)from by unfold et;rw[hs1,if_neg Dc]]
    unfold LnF lps
    by_cases c1:c<b.n
    .rw[if_neg (show ¬c=b.n by lia),if_pos c1,if_pos c1,<-S.lnRow c1]
     by_cases c2:z.o c<b.n
     .rw[if_pos ⟨c1,c2⟩,if_pos c2]
     .rw[if_neg (fun y=>c2 y.2),if_neg c2]
    .rw[if_pos (show c=b.n by lia),if_neg (wW _),if_neg c1,<-S.voRow]
end
theorem Qkz{H:Hp}{d:Addr}{fo:Obj}{js:List Nat}{ad:Nat->Addr}(h:H d=some (.frz fo (.dK (js.map fun j=>((Sum.inl ((j:Nat):Int):Key),V.ref (ad j)))))):Walk (Itk d fo (js.map fun j=>((Sum.inl ((j:Nat):Int):Key),V.ref (ad j)))) H js (fun j=>V.int ((j:Nat):Int)) where
 go i H1 s hi:=⟨s _ _ h,by rw[jQ];exact hi⟩
 stop H1 s:=⟨s _ _ h,by rw[jQ];exact jY _⟩
 yl i H1 v H2 s:=by
  rintro⟨k,u,rfl,rfl,e⟩ hi
  rw[jJ,gE hi]at e
  cases e
  exact⟨rfl,js[i],gE hi,rfl⟩
abbrev Dl:=Addr×(Nat->Int)×Int
def Lns(n:Nat)(Ds:List Dl)(i:Nat)(w:Dl->Int)(H:Hp):Prop:=∀(c:Nat) (d:Dl),Ds[c]?=some d->LnA H d.1 n d.2.1 (if c<i then d.2.2+w d else d.2.2)
theorem Lns.step{n i:Nat}{Ds:List Dl}{w:Dl->Int}{H:Hp}{d:Dl}(nd:(Ds.map (·.1)).Nodup)(h:Lns n Ds i w H)(hd:Ds[i]?=some d){o:HO}(h1:LnA (upd H d.1 o) d.1 n d.2.1 (d.2.2+w d)):Lns n Ds (i+1) w (upd H d.1 o):=fun c e he=>by
 by_cases z:c=i
 .subst z
  rw[hd]at he
  cases he
  rw[if_pos (jJd _)]
  exact h1
 .have h2:=h c e he
  have ne:e.1≠d.1:=fun y=>z (by
   have a1:(Ds.map (·.1))[c]?=some d.1:=by rw[jJ,he];exact congrArg some y
   have a2:(Ds.map (·.1))[i]?=some d.1:=by rw[jJ,hd];rfl
   obtain⟨c1,c2⟩:=jW.mp a1
   obtain⟨i1,i2⟩:=jW.mp a2
   rcases Nat.lt_trichotomy c i with y | y | y
   .exact absurd (c2.trans i2.symm) (jKa.mp nd c i c1 i1 y)
   .exact y
   .exact absurd (i2.trans c2.symm) (jKa.mp nd i c i1 c1 y))
  rw[show(if c<i+1 then e.2.2+w e else e.2.2)=if c<i then e.2.2+w e else e.2.2 from by
   by_cases y:c<i
   .rw[if_pos y,if_pos Om]
   .rw[if_neg y,if_neg Om]]
  exact IlA.upd h2 ne
def tbD(b:Pb)(z:TbS)(x:Addr)(L:Nat->Int)(v:Int):List Dl:=(z.js.map fun j=>(z.ad j,Ln b.n b.F z.o (b.F j),Vo b.n b.F b.lo z.o z.one (b.F j)))++[(z.p0,Ln b.n b.F z.o b.cA,Vo b.n b.F b.lo z.o z.one b.cA),(z.p1,Ln b.n b.F z.o unl,Vo b.n b.F b.lo z.o z.one unl),(x,L,v)]
theorem Qla{b:Pb}{z:TbS}{x:Addr}{L:Nat->Int}{v:Int}:(tbD b z x L v).map (·.1)=z.js.map z.ad++[z.p0,z.p1,x]:=by
 unfold tbD
 rw[yK,xW]
 rfl
def tbM(a:TbA)(z:TbS):List Addr:=a.ou::a.on::z.pr::z.p0::z.p1::z.js.map z.ad
section
variable{K:Fg}{C:Addr}{H0 H:Hp}{p:Addr}{a:TbA}{b:Pb}{z:TbS}
theorem Tab.ndD(S:Tab K C H0 H p a b z){x:Addr}(hx:x∉tbM a z){L:Nat->Int}{v:Int}:((tbD b z x L v).map (·.1)).Nodup:=by
 rw[Qla]
 have nd:=S.nd
 unfold tbM at hx
 rw[kJ,kJ,kJ,kJ,kJ]at nd
 obtain⟨_,_,_,n4,n5,n6⟩:=nd
 simp only[kQ,not_or]at hx n4
 rw[kXa]
 refine⟨n6,?_,fun c hc e he h=>?_⟩
 .simp only[kJ,kQ,jZb,or_false,not_or,jKd,and_true,not_false_eq_true]
  exact⟨⟨n4.1,fun y=>hx.2.2.2.1 y.symm⟩,fun y=>hx.2.2.2.2.1 y.symm⟩
 .subst h
  simp only[kQ,jZb,or_false]at he
  rcases he with y | y | y
  .exact n4.2 (by rw[<-y];exact hc)
  .exact n5 (by rw[<-y];exact hc)
  .exact hx.2.2.2.2.2 (by rw[<-y];exact hc)
theorem Tab.lnsD(S:Tab K C H0 H p a b z){x:Addr}{L:Nat->Int}{v:Int}(hL:LnA H x b.n L v)(w:Dl->Int):Lns b.n (tbD b z x L v) 0 w H:=fun c d h=>by
 rw[if_neg (xK _)]
 have m:=yQ h
 unfold tbD at m
 rcases zY.mp m with y | y
 .obtain⟨j,hj,e⟩:=kY.mp y
  rw[<-e]
  exact S.lns j hj
 .simp only[kQ,jZb,or_false]at y
  rcases y with e | e | e<;>rw[e]
  .exact S.l0
  .exact S.l1
  .exact hL
end
abbrev sFlp:Stmt:=inClass (top 18) 18
inductive spFlp(K:Fg)(C:Addr)(vs:List V)(H:Hp)(Q:VK)(E:XK):Prop|mk(H0:Hp)(p:Addr)(a:TbA)(b:Pb)(z:TbS)(k:Nat)(g x:Addr)(L:Nat->Int)(v:Int)(_:vs=[.ref p,.int k,.ref g])(_:Tab K C H0 H p a b z)(_:k<b.n)(_:z.o k<b.n)(_:H g=some (.lst [.ref x]))(_:LnA H x b.n L v)(_:(∀i,-Cx<=L i/\L i<=Cx))(_:x∉tbM a z)(_:H0 x=none)(_:∀H',Tab K C H0 H' p a b { z with one:=up z.one k (!z.one k) }->LnA H' x b.n L (v+sx z.one k*L k)->Q .non H'):spFlp K C vs H Q E
section
variable{P:Program}{w:World}{K:Fg}{mg:Str->Option Value}{base:Heap}
theorem scFlp:FnScope ["self","column","lines","sign","line"] ["self","column","lines"] (Qg sFlp):=⟨rfl,rfl,rfl,Dk,rfl,Dk,Dk⟩
theorem okFlp{f C:Addr}{fd:FuncData}(F:Fun K "flip" "Tableau.flip" sFlp f fd)(M:Mg mg)(T:TbTxt K mg C):FnOk P w K mg base CX0 1 f fd ["self","column","lines"] (spFlp K C):=by
 refine F.ok scFlp (fun vs H Q E h=>?_) (fun cdv A outer s H vs Q E hr h=>?_)
 .obtain⟨H0,p,a,b,z,k,g,x,L,v,rfl,_⟩:=h
  rfl
 obtain⟨H0,p,a,b,z,k,g,x,L,v,rfl,S,hk,hok,hg,hL,hB,hx,hx0,q⟩:=h
 have hu:(A.deeper (PyProof.Rows.envOfC "Tableau.flip" (Qg sFlp) s.heap.objs.size f cdv)).units+1<cLine:=zQ (zZ Dc _) hr.un
 refine⟨_,(Qb (Qp (i:=3) scFlp.nd rfl (Or.inl rfl) (Zq (Xj (Qo Qw (Qq (pv 0) rfl) (pv 1) (fun _ _=>rfl))) (Ze Ya Qf) Qf))
  (Qb (Qkk (Yf PassesOwn.never rfl (Xn (Qn Qav (Qn Qav (Zm ["choice","self"] [none,some 0] rfl (Qgd (Qq (pv 0) rfl)) (fun _ _ _=>(Qx (i:=0) (show(["choice","self"]:List Str).Nodup by decide +kernel) rfl (Or.inl rfl) (Or.inr rfl))) (fun _ _ _=>Xy) (fun _ _ _=>(Jp hu (Qfb (K:=K) rfl (pv 1) rfl) (pv 0) (fun _ _=>rfl)))) (Qq (pv 0) rfl)) (pv 2))) (Qx (i:=4) scFlp.nd rfl (Or.inl rfl) (Or.inl rfl)) (Qi (Ve (pv 4) (Ze Ya Qf) Kd (Qn Xu (pv 3) (Qo Qw (pv 4) (pv 1) (fun _ _=>rfl))) Qar set_list))))
  (Qi (Js (Qpl (Qo Qw (Qq (pv 0) rfl) (pv 1) (fun _ _=>rfl))) (Jx (Qq (pv 0) rfl) (pv 1) set_list))))),?_⟩
 have hz:(1000:Nat)<sizeLine:=Dc
 have jl:=S.jlen
 refine Qck (t:=tIf _ _ _) (.int (sx z.one k)) H (fun Q' q'=>?_) ?_
 .refine⟨_,rfl,S.ones T ⟨_,rfl,S.nix hk ⟨_,rfl,ite2 (fun e=>?_) (fun e=>?_)⟩⟩⟩
  .unfold sx at q';rw[if_pos e]at q';exact⟨_,rfl,q'⟩
  .unfold sx at q';rw[if_neg e]at q';exact q'
 refine Qcl ?_
 have pn:=S.inn
 refine⟨_,rfl,S.inner T ⟨a.inn,_,rfl,pn,fun nf fo D hD=>?_⟩⟩
 have s0:Same (wo H a.inn) (upd H a.inn (.frz fo (.dK (z.js.map fun j=>((Sum.inl ((j:Nat):Int):Key),V.ref (z.ad j)))))):=Qgg
 have z0:upd H a.inn (.frz fo (.dK (z.js.map fun j=>((Sum.inl ((j:Nat):Int):Key),V.ref (z.ad j))))) a.inn=some (.frz fo (.dK (z.js.map fun j=>((Sum.inl ((j:Nat):Int):Key),V.ref (z.ad j))))):=Qc
 generalize upd H a.inn (.frz fo (.dK (z.js.map fun j=>((Sum.inl ((j:Nat):Int):Key),V.ref (z.ad j)))))=H1 at s0 z0 hD
 have old:∀{H2:Hp} {c:Addr} {xs:List V},Same (wo H a.inn) H2->H c=some (.lst xs)->H2 c=some (.lst xs):=fun s h=>Vh s (Yl h pn (by intro z;cases z)) h
 refine Zi (α:=Nat) (β:=Nat) (xs:=z.js) (val:=fun j=>V.int ((j:Nat):Int)) (fun j=>V.ref (z.ad j)) id rfl (Qkz z0) Om hD (fun j hj H2 s2 P h=>?_) fun H2 s2 h2=>?_
 .have Z:=S.frz (s0.trans s2) (s2 _ _ z0)
  exact⟨_,rfl,Z.ob.inner T ⟨_,rfl,a.inn,_,rfl,Z.dg j hj,h H2 fun _ _ z=>z⟩⟩
 rw[kJf]at h2
 have s02:=s0.trans s2
 have z2:=s2 _ _ z0
 have Z2:=S.frz s02 z2
 refine⟨_,rfl,Z2.ob.prices T ⟨D,z.pr,_,_,rfl,rfl,h2,old s02 S.pr,by rw[jQ];show z.js.length+2<=sizeLine;lia,fun D3 hD3=>?_⟩⟩
 have s3:=s02.trans (Qd hD3 (.lst (z.js.map (fun j=>V.ref (z.ad j))++[.ref z.p0,.ref z.p1])))
 refine⟨_,rfl,D3,g,_,_,rfl,rfl,Qc,old s3 hg,by rw[kZ,jQ];show z.js.length+2+1<=sizeLine;lia,fun D4 hD4=>?_⟩
 have e4:z.js.map (fun j=>V.ref (z.ad j))++[.ref z.p0,.ref z.p1]++[.ref x]=(tbD b z x L v).map fun d=>V.ref d.1:=by
  unfold tbD
  rw[yK,xW,List.append_assoc]
  rfl
 rw[e4]
 have s4:=s3.trans (Qd hD4 (.lst ((tbD b z x L v).map fun d=>V.ref d.1)))
 have z4:=((Qd hD3 (.lst (z.js.map (fun j=>V.ref (z.ad j))++[.ref z.p0,.ref z.p1]))).trans (Qd hD4 (.lst ((tbD b z x L v).map fun d=>V.ref d.1)))) _ _ z2
 have h4:upd (upd H2 D3 (.lst (z.js.map (fun j=>V.ref (z.ad j))++[.ref z.p0,.ref z.p1]))) D4 (.lst ((tbD b z x L v).map fun d=>V.ref d.1)) D4=some (.lst ((tbD b z x L v).map fun d=>V.ref d.1)):=Qc
 have D4n:wo H a.inn D4=none:=by
  cases e:wo H a.inn D4 with
  |none=>rfl
  |some u=>rw[s3 _ _ e]at hD4;cases hD4
 generalize upd (upd H2 D3 (.lst (z.js.map (fun j=>V.ref (z.ad j))++[.ref z.p0,.ref z.p1]))) D4 (.lst ((tbD b z x L v).map fun d=>V.ref d.1))=H4 at s4 z4 h4
 have nd:=S.ndD hx (L:=L) (v:=v)
 have l0:=S.lnsD hL (fun d=>sx z.one k*d.2.1 k)
 have isl:∀d∈tbD b z x L v,∃xs,H d.1=some (.lst xs):=fun d hd=>by
  obtain⟨c,hc⟩:=kQe.mp hd
  exact⟨_,l0 c d hc⟩
 have D4x:∀d∈tbD b z x L v,D4≠d.1:=fun d hd y=>by
  obtain⟨xs,h⟩:=isl d hd
  rw[y,Qfc (Yl h pn (by intro z;cases z)),h]at D4n
  cases D4n
 refine⟨D4,rfl,⟨_,Qh h4⟩,Ym (xs:=(tbD b z x L v).map fun d=>V.ref d.1) (fun i σ H5=>∃u:Option V,σ=[some (.ref p),some (.int k),some (.ref g),some (.int (sx z.one k)),u]/\Lns b.n (tbD b z x L v) i (fun d=>sx z.one k*d.2.1 k) H5/\∀c o,H4 c=some o->(∀d∈tbD b z x L v,c≠d.1)->H5 c=some o) ⟨none,rfl,fun c d h=>Vh s4 (Yl (l0 c d h) pn (by intro z;cases z)) (l0 c d h),fun c o h _=>h⟩ (fun i σ H5 _ ⟨_,_,_,fr⟩=>Qh (fr _ _ h4 D4x)) ?_ ?_⟩
 .rintro i y σ H5 e1 ⟨u,rfl,hl,fr⟩
  rw[jJ]at e1
  cases e2:(tbD b z x L v)[i]? with
  |none=>rw[e2]at e1;cases e1
  |some d=>
   rw[e2]at e1
   cases e1
   have h5:=hl i d e2
   rw[if_neg (wW _)]at h5
   refine⟨_,rfl,_,rfl,h5.last ⟨_,rfl,_,rfl,_,rfl,h5.ix hk ⟨_,_,rfl,rfl,cm1 (by unfold sx;split<;>decide),_,_,rfl,rfl,IlA.setl h5 fun o h6=>⟨_,rfl,hl.step nd e2 (h6.congr fun c hc=>?_),fun c o' h n=>by rw[Qj (n d (yQ e2))];exact fr c o' h n⟩⟩⟩⟩
   show(if c=b.n then d.2.2+sx z.one k*d.2.1 k else LnF b.n d.2.1 d.2.2 c)=LnF b.n d.2.1 (d.2.2+sx z.one k*d.2.1 k) c
   unfold LnF
   by_cases y:c<b.n
   .rw[if_neg (show ¬c=b.n by lia),if_pos y,if_pos y]
   .rw[if_pos (show c=b.n by lia),if_neg y]
 .rintro σ H5 ⟨u,rfl,hl,fr⟩
  rw[jQ]at hl
  have nin:∀d∈tbD b z x L v,a.inn≠d.1:=fun d hd y=>by
   obtain⟨xs,h⟩:=isl d hd
   rw[<-y,pn]at h
   cases h
  refine⟨a.inn,fo,_,nf,fr _ _ z4 nin,?_⟩
  have keep:∀c o,H c=some o->(∀d∈tbD b z x L v,c≠d.1)->upd H5 a.inn (.dK (z.js.map fun j=>((Sum.inl ((j:Nat):Int):Key),V.ref (z.ad j)))) c=some o:=fun c o h n=>by
   by_cases y:c=a.inn
   .rw[y,Qc,<-pn,<-y];exact h
   .rw[Qj y];exact fr c o (Vh s4 y h) n
  have lns6:∀d∈tbD b z x L v,LnA (upd H5 a.inn (.dK (z.js.map fun j=>((Sum.inl ((j:Nat):Int):Key),V.ref (z.ad j))))) d.1 b.n d.2.1 (d.2.2+sx z.one k*d.2.1 k):=fun d hd=>by
   obtain⟨c,hc⟩:=kQe.mp hd
   have h:=hl c d hc
   rw[if_pos (jW.mp hc).1]at h
   exact IlA.upd h (fun y=>nin d hd y.symm)
  generalize upd H5 a.inn (.dK (z.js.map fun j=>((Sum.inl ((j:Nat):Int):Key),V.ref (z.ad j))))=H6 at keep lns6
  have inD:∀c,c∈z.js.map z.ad++[z.p0,z.p1,x]↔∃d∈tbD b z x L v,c=d.1:=fun c=>by
   rw[<-Qla (L:=L) (v:=v),kY]
   exact⟨fun⟨d,h1,h2⟩=>⟨d,h1,h2.symm⟩,fun⟨d,h1,h2⟩=>⟨d,h1,h2.symm⟩⟩
  have nd0:=S.nd
  rw[kJ,kJ,kJ]at nd0
  obtain⟨m1,m2,m3,_⟩:=nd0
  unfold tbM at hx
  simp only[kQ,not_or]at hx m1 m2 m3
  obtain⟨x1,x2,x3,x4,x5,x6⟩:=hx
  have outD:∀c,c≠z.p0->c≠z.p1->c≠x->c∉z.js.map z.ad->∀d∈tbD b z x L v,c≠d.1:=fun c y1 y2 y3 y4 d hd e=>by
   have:=(inD c).mpr ⟨d,hd,e⟩
   simp only[zY,kQ,jZb,or_false]at this
   rcases this with w | w | w | w
   .exact y4 w
   .exact y1 w
   .exact y2 w
   .exact y3 w
  have notl:∀{c:Addr} {o:HO},H c=some o->(∀xs,o≠.lst xs)->∀d∈tbD b z x L v,c≠d.1:=fun h n d hd e=>by
   obtain⟨xs,h'⟩:=isl d hd
   rw[<-e,h]at h'
   exact n xs (Option.some.inj h')
  have on6:=keep _ _ S.on (outD _ m2.2.1 m2.2.2.1 (Ne.symm x2) m2.2.2.2)
  obtain⟨dx,fs,o1,o2,o3⟩:=S.ob
  have o6:=keep _ _ o1 (notl o1 fun _ y=>by cases y)
  have ob6:TbO C H6 p a b z:=⟨dx,fs,o6,o2,o3⟩
  refine⟨_,rfl,ob6.ones T ⟨_,rfl,ixR on6 hk ⟨_,rfl,_,rfl,ob6.ones T ⟨_,rfl,a.on,_,_,k,rfl,rfl,on6,rix hk,?_⟩⟩⟩⟩
  have lst7:∀{c:Addr},c≠a.on->upd H6 a.on (.lst (((List.range b.n).map fun k=>V.bl (z.one k)).set k (.bl (!z.one k)))) c=H6 c:=fun n=>Qj n
  have onD:∀d∈tbD b z x L v,d.1≠a.on:=fun d hd e=>outD _ m2.2.1 m2.2.2.1 (Ne.symm x2) m2.2.2.2 d hd e.symm
  have lns7:∀d∈tbD b z x L v,LnA (upd H6 a.on (.lst (((List.range b.n).map fun k=>V.bl (z.one k)).set k (.bl (!z.one k))))) d.1 b.n d.2.1 (d.2.2+sx z.one k*d.2.1 k):=fun d hd=>IlA.upd (lns6 d hd) (onD d hd)
  have fl:∀g:Nat->Int,Vo b.n b.F b.lo z.o (up z.one k (!z.one k)) g=Vo b.n b.F b.lo z.o z.one g+sx z.one k*Ln b.n b.F z.o g k:=fun g=>Qbh b.fx hk hok g
  have memD:∀j∈z.js,(z.ad j,Ln b.n b.F z.o (b.F j),Vo b.n b.F b.lo z.o z.one (b.F j))∈tbD b z x L v:=fun j hj=>zY.mpr (.inl (kY.mpr ⟨j,hj,rfl⟩))
  have m0:(z.p0,Ln b.n b.F z.o b.cA,Vo b.n b.F b.lo z.o z.one b.cA)∈tbD b z x L v:=zY.mpr (.inr (by simp))
  have m1':(z.p1,Ln b.n b.F z.o unl,Vo b.n b.F b.lo z.o z.one unl)∈tbD b z x L v:=zY.mpr (.inr (by simp))
  have mx:(x,L,v)∈tbD b z x L v:=zY.mpr (.inr (by simp))
  have f0:=S.f0.2.2
  have neI:∀{c:Addr} {xs:List V},H c=some (.lst xs)->c≠a.inn:=fun h=>Yl h pn (by intro z;cases z)
  refine q _ ⟨⟨dx,fs,by rw[lst7 (Yl o1 S.on (by intro z;cases z))];exact o6,o2,o3⟩,S.ok,S.ro,fun c o h=>?_,?_,?_,?_,fun j hj=>?_,?_,?_,?_,S.nd,S.f0,S.jn,S.jm,S.st.flip hok⟩ (lns7 _ mx)
  .have n1:∀y∈(a.ou::a.on::z.pr::z.p0::z.p1::z.js.map z.ad),c≠y:=fun y hy e=>by rw[e,f0 y hy]at h;cases h
   rw[lst7 (n1 _ (by simp))]
   refine keep c o (S.ba _ _ h) (outD c (n1 _ (by simp)) (n1 _ (by simp)) (fun e=>by rw[e,hx0]at h;cases h) fun y=>?_)
   exact n1 c (by simp only[kQ];exact .inr (.inr (.inr (.inr (.inr y))))) rfl
  .rw[lst7 (fun y=>m1.1 y)]
   exact keep _ _ S.ou (outD _ m1.2.2.1 m1.2.2.2.1 (Ne.symm x1) m1.2.2.2.2)
  .rw[Qc,rset]
   congr 2
   refine xZ fun d _=>?_
   show(if d=k then V.bl (!z.one k)else V.bl (z.one d))=V.bl (up z.one k (!z.one k) d)
   unfold up
   by_cases y:d=k
   .rw[if_pos y,if_pos y]
   .rw[if_neg y,if_neg y]
  .rw[lst7 (Yl pn S.on (by intro z;cases z))]
   exact keep _ _ pn (notl pn fun _ y=>by cases y)
  .rw[fl];exact lns7 _ (memD j hj)
  .rw[lst7 (fun y=>m2.1 y.symm)]
   exact keep _ _ S.pr (outD _ m3.1 m3.2.1 (Ne.symm x3) m3.2.2)
  .rw[fl];exact lns7 _ m0
  .rw[fl];exact lns7 _ m1'
def mu(one0 one:Nat->Bool):Nat->Nat
 |0=>0
 |k+1=>mu one0 one k+(if one k=one0 k then 1 else 0)
theorem Qlb{one0 one:Nat->Bool}{c:Nat}{v:Bool}:∀{n:Nat},n<=c->mu one0 (up one c v) n=mu one0 one n
 |0,_=>rfl
 |n+1,h=>by
  show mu one0 (up one c v) n+(if up one c v n=one0 n then 1 else 0)=mu one0 one n+_
  rw[Qlb Om,Xd Om]
theorem Qlc{one0 one:Nat->Bool}{c:Nat}(e:one c=one0 c):∀{n:Nat},c<n->mu one0 (up one c (!one c)) n<mu one0 one n
 |0,h=>absurd h (xK _)
 |n+1,h=>by
  show mu one0 (up one c (!one c)) n+(if up one c (!one c) n=one0 n then 1 else 0)<mu one0 one n+(if one n=one0 n then 1 else 0)
  by_cases z:c=n
  .subst z
   rw[Qlb (jY _),Xm,if_pos e,if_neg (by rw[e];cases one0 c<;>decide)]
   lia
  .rw[Xd (fun y=>z y.symm)]
   have:=Qlc (n:=n) e Om
   lia
abbrev sCoF:Stmt:=inClass (top 18) 19
inductive spCoF(K:Fg)(C:Addr)(vs:List V)(H:Hp)(Q:VK)(E:XK):Prop|mk(H0:Hp)(p:Addr)(a:TbA)(b:Pb)(z:TbS)(x:Addr)(t:Nat)(side:Int)(pl:Bool)(_:vs=[.ref p,.ref x,.int side,.bl pl])(_:Tab K C H0 H p a b z)(_:Brk b.n b.N b.F b.lo z.o z.one t side)(_:Dual b.n b.F b.cA unl z.o z.one)(_:LnA H x b.n (Ln b.n b.F z.o (b.F t)) (Vo b.n b.F b.lo z.o z.one (b.F t)-et b.lo t side*scl b.n b.F z.o))(_:x∉tbM a z)(_:H0 x=none)(_:∀(r:Option Nat) (one1:Nat->Bool) (H':Hp),Tab K C H0 H' p a b { z with one:=one1 }->LnA H' x b.n (Ln b.n b.F z.o (b.F t)) (Vo b.n b.F b.lo z.o one1 (b.F t)-et b.lo t side*scl b.n b.F z.o)->Flp b.n b.N b.F b.lo b.cA unl z.o z.one one1 t side->Bst b.n b.F b.cA unl z.o one1 t side b.n r->(pl=true->one1=z.one)->Q (opV r) H'):spCoF K C vs H Q E
theorem scCoF:FnScope ["self","line","side","plain","column"] ["self","line","side","plain"] (Qg sCoF):=⟨rfl,rfl,rfl,Dk,rfl,Dk,Dk⟩
theorem okCoF{f C:Addr}{fd:FuncData}(F:Fun K "column_for" "Tableau.column_for" sCoF f fd)(M:Mg mg)(T:TbTxt K mg C){f_nearest:Addr}{fd_nearest:FuncData}(G_nearest:FnOk P w K mg base CX0 2 f_nearest fd_nearest ["self","line","side"] (spNst K C))(b_nearest:Binds K fd_nearest ["self","line","side"] [])(m_nearest:Meth K C "nearest" f_nearest){f_is_too_little:Addr}{fd_is_too_little:FuncData}(G_is_too_little:FnOk P w K mg base CX0 1 f_is_too_little fd_is_too_little ["self","line","column"] (spTLi K C))(b_is_too_little:Binds K fd_is_too_little ["self","line","column"] [])(m_is_too_little:Meth K C "is_too_little" f_is_too_little){f_flip:Addr}{fd_flip:FuncData}(G_flip:FnOk P w K mg base CX0 1 f_flip fd_flip ["self","column","lines"] (spFlp K C))(b_flip:Binds K fd_flip ["self","column","lines"] [])(m_flip:Meth K C "flip" f_flip):FnOk P w K mg base CX0 3 f fd ["self","line","side","plain"] (spCoF K C):=by
 refine F.ok scCoF (fun vs H Q E h=>?_) (fun cdv A outer s H vs Q E hr h=>?_)
 .obtain⟨H0,p,a,b,z,x,t,side,pl,rfl,_⟩:=h
  rfl
 obtain⟨H0,p,a,b,z,x,t,side,pl,rfl,S,B,D,hL,hx,hx0,q⟩:=h
 refine⟨_,(Qb (Qp (i:=4) scCoF.nd rfl (Or.inl rfl) (Xf (pv 0) T.cl m_nearest G_nearest (hr.mono Dc) b_nearest .nil Yq (Qa (pv 1) (Qa (pv 2) Qe))))
  (Qb (Qbl PassesOwn.never (PW.pt (Yn (Qr Wm (pv 4) Ye (Qt _)) (Yn (Jg (Xj (pv 3))) (Zb (Xj (Xf (pv 0) T.cl m_is_too_little G_is_too_little (hr.mono Dc) b_is_too_little .nil Yq (Qa (pv 1) (Qa (pv 4) Qe)))))))) (Qb (Ys (Xf (pv 0) T.cl m_flip G_flip (hr.mono Dc) b_flip .nil Yq (Qa (pv 4) (Qa (Xz (Qa (pv 1) Qe)) Qe))))
  (Qi (Qp (i:=4) scCoF.nd rfl (Or.inl rfl) (Xf (pv 0) T.cl m_nearest G_nearest (hr.mono Dc) b_nearest .nil Yq (Qa (pv 1) (Qa (pv 2) Qe)))))))
  (Qi (Qs (pv 4))))),?_⟩
 have hs:side=1\/side=-1:=by rcases B.sd with y | ⟨y,_⟩;exact .inl y;exact .inr y
 refine⟨_,rfl,S.mt ⟨_,rfl,_,rfl,H0,p,a,b,z,x,t,_,side,rfl,S,hL,hs,fun r0 hr0=>?_⟩⟩
 refine⟨fun m σ H2=>∃(r:Option Nat) (one1:Nat->Bool),σ=[some (.ref p),some (.ref x),some (.int side),some (.bl pl),some (opV r)]/\Tab K C H0 H2 p a b { z with one:=one1 }/\LnA H2 x b.n (Ln b.n b.F z.o (b.F t)) (Vo b.n b.F b.lo z.o one1 (b.F t)-et b.lo t side*scl b.n b.F z.o)/\Flp b.n b.N b.F b.lo b.cA unl z.o z.one one1 t side/\Bst b.n b.F b.cA unl z.o one1 t side b.n r/\(pl=true->one1=z.one)/\m=mu z.one one1 b.n,⟨_,r0,z.one,rfl,S,hL,Flp.start S.st B,hr0,fun _=>rfl,rfl⟩,?_⟩
 rintro m σ H2 ⟨r,one1,rfl,S2,hL2,hF,hB,hp,rfl⟩
 cases r with
 |none=>exact⟨_,rfl,rfl,false,rfl,iteF (iteF ⟨_,rfl,q none one1 H2 S2 hL2 hF hB hp⟩)⟩
 |some c=>
  refine⟨_,rfl,rfl,true,rfl,iteT ⟨_,rfl,_,rfl,?_⟩⟩
  cases pl with
  |true=>exact iteF (iteF ⟨_,rfl,q (some c) one1 H2 S2 hL2 hF hB hp⟩)
  |false=>
   refine iteT ⟨_,rfl,S2.mt ⟨_,rfl,_,rfl,H0,p,a,b,{ z with one:=one1 },x,_,_,c,rfl,S2,hB.1,hL2,fun y hy=>⟨_,rfl,?_⟩⟩⟩
   cases y with
   |false=>exact iteF ⟨_,rfl,q (some c) one1 H2 S2 hL2 hF hB hp⟩
   |true=>
    obtain⟨y1,y2⟩:=hy.mp rfl
    refine iteT ⟨_,fun σ' H' h=>h,?_⟩
    refine⟨_,rfl,S2.mt ⟨_,rfl,_,rfl,by show 1<=sizeLine;decide,fun g hg=>?_⟩⟩
    have s3:=Qd hg (.lst [.ref x])
    refine⟨H0,p,a,b,{ z with one:=one1 },c,g,x,_,_,rfl,S2.same s3,hB.1,y1,Qc,s3 _ _ hL2,fun i=>Qcj S.ok (S.ok.F t) i,hx,hx0,fun H4 S4 hL4=>?_⟩
    have hF4:=hF.flip b.fx D hB y1 y2
    have hL5:LnA H4 x b.n (Ln b.n b.F z.o (b.F t)) (Vo b.n b.F b.lo z.o (up one1 c (!one1 c)) (b.F t)-et b.lo t side*scl b.n b.F z.o):=by
     rw[Qbh b.fx hB.1 y1,show ∀u v w:Int,u+v-w=u-w+v from fun u v w=>Om]
     exact hL4
    refine⟨_,rfl,S4.mt ⟨_,rfl,_,rfl,H0,p,a,b,{ z with one:=up one1 c (!one1 c) },x,t,_,side,rfl,S4,hL5,hs,fun r1 hr1=>?_⟩⟩
    exact⟨_,Qlc (hF.same hB.1 hB.2.1) hB.1,r1,up one1 c (!one1 c),rfl,S4,hL5,hF4,hr1,(fun y=>nomatch y),rfl⟩
abbrev sRnw:Stmt:=top 17
structure Rnw(n c:Nat)(sc:Int)(Lg Lt L':Nat->Int)(vg vt v':Int):Prop where
 cn:c<n
 s0:0<sc
 p0:Lt c≠0
 at':L' c=sgn (Lt c)*Lg c
 ne:∀k,k<n->k≠c->sc*L' k=ab (Lt c)*Lg k-sgn (Lt c)*Lg c*Lt k
 la:sc*v'=ab (Lt c)*vg-sgn (Lt c)*Lg c*vt
 bg:∀k,Big (LnF n Lg vg k)
 bt:∀k,Big (LnF n Lt vt k)
 bs:Big sc
inductive spRnw(K:Fg)(vs:List V)(H:Hp)(Q:VK)(E:XK):Prop|mk(y x:Addr)(n c:Nat)(sc:Int)(Lg Lt L':Nat->Int)(vg vt v':Int)(_:vs=[.ref y,.ref x,.int c,.int sc])(_:n<=7)(_:LnA H y n Lg vg)(_:LnA H x n Lt vt)(_:Rnw n c sc Lg Lt L' vg vt v')(_:∀(g:Addr) (H':Hp),Same H H'->(g=y\/H g=none)->LnA H' g n L' v'->Q (.ref g) H'):spRnw K vs H Q E
theorem Qld{x:Int}(h:Big x):Big (-x):=by unfold Big at *;rw[Int.natAbs_neg];exact h
theorem Qle{s q x:Int}(hs:0<s)(e:s*q=x):x.fdiv s=q:=by rw[<-e];exact Int.mul_fdiv_cancel_left _ Om
theorem scRnw:FnScope ["other","line","column","scale","turn","rest","numbers"] ["other","line","column","scale"] (Qg sRnw):=⟨rfl,rfl,rfl,Dk,rfl,Dk,Dk⟩
theorem okRnw(F:Fn K mg "renewed" sRnw)(M:Mg mg):Cal P w K mg base 1 "renewed" ["other","line","column","scale"] (spRnw K):=by
 refine Xt F scRnw (fun _ _ _ _ _ _=>Qch (fun _ _ _ _=>rfl)) (fun vs H Q E h=>?_) (fun f cdv A outer s H vs Q E hr h=>?_)
 .obtain⟨y,x,n,c,sc,Lg,Lt,L',vg,vt,v',rfl,_⟩:=h
  rfl
 obtain⟨y,x,n,c,sc,Lg,Lt,L',vg,vt,v',rfl,n7,hy,hx,R,q⟩:=h
 have hz:(1000:Nat)<sizeLine:=Dc
 refine⟨_,(Qb (Qp (i:=4) scRnw.nd rfl (Or.inr rfl) (Qo Qw (pv 1) (pv 2) (fun _ _=>rfl)))
  (Qb (Qp (i:=5) scRnw.nd rfl (Or.inr rfl) (Qo Qw (pv 0) (pv 2) (fun _ _=>rfl)))
  (Qb (Xi (Qr Jo (pv 4) Qf (Qt _)) (Qb (Qp (i:=4) scRnw.nd rfl (Or.inr rfl) (Ze Ya (pv 4)))
  (Qi (Qp (i:=5) scRnw.nd rfl (Or.inr rfl) (Ze Ya (pv 5))))) Qv)
  (Qb (Xi (PW.pt (Yn (Qr Zf (pv 5) Qf (Qt _)) (Zb (Qr Zf (pv 4) (pv 3) (Qt _))))) (Qi (Qs (pv 0))) Qv)
  (Qb (Zx (i:=6) ["number","less","scale","turn","rest"] [none,none,some 3,some 4,some 5] rfl scRnw.nd rfl (Or.inl rfl) (Qax true true rfl M.zip_ (Qa (pv 0) (Qa (pv 1) Qe))) (fun _ _ _=>(Yu (K:=K) (i:=0) (j:=1) rfl rfl (show(["number","less","scale","turn","rest"]:List Str).Nodup by decide +kernel) rfl rfl rfl rfl)) (fun _ _ _=>Xy) (fun _ _ _=>(Qn Zs (Qn Xs (Qn Wy (pv 3) (pv 0)) (Qn Wy (pv 4) (pv 1))) (pv 2))))
  (Qb (Js (pv 5) (Jx (pv 6) (pv 2) set_list))
  (Qi (Qs (pv 6))))))))),?_⟩
 refine⟨_,rfl,_,rfl,hx.ix R.cn ⟨_,rfl,_,rfl,hy.ix R.cn ?_⟩⟩
 refine Wb (fun σ' H'=>H=H'/\σ'=[some (.ref y),some (.ref x),some (.int c),some (.int sc),some (.int (ab (Lt c))),some (.int (sgn (Lt c)*Lg c)),none]) ?_ fun REST=>?_
 rotate_left
 .refine⟨_,rfl,_,_,rfl,rfl,_,rfl,ite2 (fun e=>?_) (fun e=>?_)⟩
  .have e':=kK e
   refine⟨_,rfl,_,rfl,_,rfl,_,rfl,REST _ _ ⟨rfl,?_⟩⟩
   unfold ab sgn
   rw[if_pos e',if_pos e',kXf,jQa]
   rfl
  .have e':¬Lt c<0:=fun h=>e (kW h)
   refine REST _ _ ⟨rfl,?_⟩
   unfold ab sgn
   rw[if_neg e',if_neg e',jQa]
   rfl
 rintro σ' H' ⟨rfl,rfl⟩
 have bt1:Big (ab (Lt c)):=by
  have:=R.bt c
  rw[Jj R.cn]at this
  unfold ab
  split
  .exact Qld this
  .exact this
 have br1:Big (sgn (Lt c)*Lg c):=by
  have:=R.bg c
  rw[Jj R.cn]at this
  unfold sgn
  split
  .rw[kXf,jQa];exact Qld this
  .rw[jQa];exact this
 refine Qcm (fun σ' H'=>H=H'/\σ'=[some (.ref y),some (.ref x),some (.int c),some (.int sc),some (.int (ab (Lt c))),some (.int (sgn (Lt c)*Lg c)),none]) ?_ fun REST=>?_
 rotate_left
 .refine⟨_,rfl,rfl,_,rfl,ite2 (fun e=>?_) (fun e=>?_)⟩
  .have e1:sgn (Lt c)*Lg c=0:=V.int.inj (kK e)
   refine⟨_,rfl,_,rfl,rfl,_,rfl,ite2 (fun e=>?_) (fun _=>REST _ _ ⟨rfl,rfl⟩)⟩
   have e2:ab (Lt c)=sc:=V.int.inj (kK e)
   refine⟨_,rfl,q y H (fun _ _ z=>z) (.inl rfl) (IlA.congr hy fun k hk=>?_)⟩
   have can:∀u v:Int,sc*u=sc*v->u=v:=fun u v h=>kJc (by have:=R.s0;lia) h
   unfold LnF
   by_cases y1:k<n
   .rw[if_pos y1,if_pos y1]
    by_cases y2:k=c
    .subst y2
     rw[R.at',e1]
     unfold sgn at e1
     split at e1<;>lia
    .refine(can _ _ ?_).symm
     rw[R.ne k y1 y2,e1,e2,wQ,Int.sub_zero]
   .rw[if_neg y1,if_neg y1]
    refine(can _ _ ?_).symm
    rw[R.la,e1,e2,wQ,Int.sub_zero]
  .exact ite2 (fun z=>nomatch z) fun _=>REST _ _ ⟨rfl,rfl⟩
 rintro σ' H' ⟨rfl,rfl⟩
 refine⟨_,rfl,_,rfl,y,x,rfl,⟨_,Qh hy⟩,⟨_,Qh hx⟩,fun D hD=>?_⟩
 refine Wa (K:=K) (xs:=List.range (n+1)) (v1:=fun k=>V.int (LnF n Lg vg k)) (v2:=fun k=>V.int (LnF n Lt vt k)) V.int (fun k=>(ab (Lt c)*LnF n Lg vg k-sgn (Lt c)*Lg c*LnF n Lt vt k).fdiv sc) rfl (Vb (m1:=true) (m2:=true) (fun H1 s=>s.seq (Qh hy)) (fun H1 s=>s.seq (Qh hx))) (by rw[jV];lia) hD (fun k hk H1 s1 P h=>?_) fun H1 s1 h1=>?_
 .exact⟨_,rfl,_,rfl,_,_,rfl,rfl,⟨bt1,R.bg k⟩,_,rfl,_,rfl,_,_,rfl,rfl,⟨br1,R.bt k⟩,_,_,rfl,rfl,_,rfl,_,_,rfl,rfl,⟨by have:=R.s0;lia,R.bs⟩,h H1 fun _ _ z=>z⟩
 .have h2:IlA H1 D (n+1) (fun k=>(ab (Lt c)*LnF n Lg vg k-sgn (Lt c)*Lg c*LnF n Lt vt k).fdiv sc):=by rw[xW]at h1;exact h1
  have hcn:=R.cn
  refine⟨_,rfl,_,rfl,_,rfl,h2.setk Om fun o h3=>⟨_,rfl,q D _ (Xg s1 hD) (.inr hD) (h3.congr fun k hk=>?_)⟩⟩
  show(if k=c then sgn (Lt c)*Lg c else(ab (Lt c)*LnF n Lg vg k-sgn (Lt c)*Lg c*LnF n Lt vt k).fdiv sc)=LnF n L' v' k
  by_cases y1:k<n
  .rw[Jj y1,Jj y1,Jj y1]
   by_cases y2:k=c
   .rw[if_pos y2,y2,R.at']
   .rw[if_neg y2,Qle R.s0 (R.ne k y1 y2)]
  .have y3:k=n:=Om
   subst y3
   rw[Ju,Ju,Ju,if_neg Om,Qle R.s0 R.la]
end
theorem Qgh{f:Str}{v:V}:∀{fs:List (Str×V)},fs.lookup f≠none->(putF f v fs).length=fs.length
 |[],h=>absurd rfl h
 |(g,w)::r,h=>by
  unfold putF
  by_cases c:g=f
  .rw[if_pos c];rfl
  .rw[if_neg c,xQ,xQ,Qgh (fs:=r) (by
    rw[jZc]at h
    have e:(f == g)=false:=by
     cases x:f == g with
     |false=>rfl
     |true=>exact absurd (eq_of_beq x).symm c
    rw[e]at h
    exact h)]
section
variable{K:Fg}{mg:Str->Option Value}{C:Addr}{H0 H:Hp}{p:Addr}{a:TbA}{b:Pb}{z z2:TbS}
theorem TbO.putP(h:TbO C H p a b z){f:Str}{v:V}(hf:tbL a b.n z.pr z.wk (scl b.n b.F z.o) f≠none)(e:∀x,(if x=f then some v else tbL a b.n z.pr z.wk (scl b.n b.F z.o) x)=tbL a b.n z2.pr z2.wk (scl b.n b.F z2.o) x){dx:Addr}{fs:List (Str×V)}(hp:H p=some (.ins C dx fs)):TbO C (upd H p (.ins C dx (putF f v fs))) p a b z2:=by
 obtain⟨dx',fs',h1,h2,h3⟩:=h
 rw[hp]at h1
 cases h1
 exact⟨dx,_,Qc,by rw[Qgh (by rw[h3];exact hf)];exact h2,fun x=>by rw[Xr,h3];exact e x⟩
theorem tbL_pr{n:Nat}{pr D:Addr}{wk sc:Int}(x:Str):(if x="prices" then some (V.ref D)else tbL a n pr wk sc x)=tbL a n D wk sc x:=by
 unfold tbL
 by_cases h:x="prices"
 .rw[if_pos h,if_pos h]
 .rw[if_neg h,if_neg h,if_neg h]
theorem tbL_sc{n:Nat}{pr:Addr}{wk sc sc':Int}(x:Str):(if x="scale" then some (V.int sc')else tbL a n pr wk sc x)=tbL a n pr wk sc' x:=by
 unfold tbL
 by_cases h:x="scale"
 .subst h
  rw[if_pos rfl,if_neg Dk,if_neg Dk,if_neg Dk,if_neg Dk,if_pos rfl]
 .rw[if_neg h,if_neg h,if_neg h]
theorem tbL_wk{n:Nat}{pr:Addr}{wk sc wk':Int}(x:Str):(if x="work" then some (V.int wk')else tbL a n pr wk sc x)=tbL a n pr wk' sc x:=by
 unfold tbL
 by_cases h:x="work"
 .subst h
  rw[if_pos rfl,if_neg Dk,if_neg Dk,if_neg Dk,if_neg Dk,if_neg Dk,if_pos rfl]
 .rw[if_neg h,if_neg h,if_neg h]
theorem TbO.setF(h:TbO C H p a b z)(T:TbTxt K mg C){f:Str}{v:V}(hn:f∈tbN)(hf:tbL a b.n z.pr z.wk (scl b.n b.F z.o) f≠none)(e:∀x,(if x=f then some v else tbL a b.n z.pr z.wk (scl b.n b.F z.o) x)=tbL a b.n z2.pr z2.wk (scl b.n b.F z2.o) x){Q:Hp->Prop}(q:∀o,TbO C (upd H p o) p a b z2->Q (upd H p o)):∃a' C' dx fs,V.ref p=.ref a'/\H a'=some (.ins C' dx fs)/\Cls K C'/\NoAttr K C' f/\fs.length<1000/\Q (upd H a' (.ins C' dx (putF f v fs))):=by
 obtain⟨dx,fs,h1,h2,h3⟩:=id h
 exact⟨p,C,dx,fs,rfl,h1,T.cl,T.na f hn,Om,q _ (h.putP hf e h1)⟩
theorem Qse:tbL a b.n z.pr z.wk (scl b.n b.F z.o) "prices"≠none:=by unfold tbL;rw[if_pos rfl];exact kXc _
theorem Qsf:tbL a b.n z.pr z.wk (scl b.n b.F z.o) "scale"≠none:=by unfold tbL;rw[if_neg Dk,if_neg Dk,if_neg Dk,if_neg Dk,if_pos rfl];exact kXc _
theorem Qlf:tbL a b.n z.pr z.wk (scl b.n b.F z.o) "work"=some (.int z.wk):=by unfold tbL;rw[if_neg Dk,if_neg Dk,if_neg Dk,if_neg Dk,if_neg Dk,if_pos rfl]
theorem TbO.augW(h:TbO C H p a b z)(T:TbTxt K mg C){tv:TE}{σ:St}{D:Ends}(h0:σ[0]?=some (some (.ref p)))(ht:∀Q:VK,(∀w:Int,Q (.int w) H)->tv σ H Q)(q:∀w o,TbO C (upd H p o) p a b { z with wk:=w }->D.nx σ (upd H p o)):Qjf K (tVar 0) tv rAdd "work" D σ H:=by
 obtain⟨dx,fs,o1,o2,o3⟩:=id h
 refine⟨_,h0,p,C,dx,fs,_,rfl,o1,T.cl,T.na _ (by unfold tbN;simp),(o3 _).trans Qlf,ht _ fun w=>⟨_,_,rfl,rfl,dx,fs,o1,Om,?_⟩⟩
 exact q (z.wk+w) _ (h.putP (z2:={ z with wk:=z.wk+w }) (by rw[Qlf];exact kXc _) (fun x=>tbL_wk x) o1)
theorem Qsg{js:List Nat}{ad:Nat->Addr}{j:Nat}{g:Addr}(hj:j∈js):putK (js.map fun i=>((Sum.inl ((i:Nat):Int):Key),V.ref (ad i))) (Sum.inl ((j:Nat):Int)) (.ref g)=js.map fun i=>((Sum.inl ((i:Nat):Int):Key),V.ref (up ad j g i)):=by
 unfold putK
 rw[if_pos (by
  rw[List.any_eq_true]
  exact⟨_,kY.mpr ⟨j,hj,rfl⟩,kW rfl⟩),xW]
 refine xZ fun i _=>?_
 show(if (Sum.inl ((i:Nat):Int):Key)=Sum.inl ((j:Nat):Int)then _ else _)=_
 by_cases c:i=j
 .subst c;rw[if_pos rfl,Xm]
 .rw[if_neg (fun y=>c (by have:=Sum.inl.inj y;lia)),Xd c]
theorem Qnx{js:List Nat}{ad:Nat->Addr}{j:Nat}{g:Addr}(hj:j∉js):putK (js.map fun i=>((Sum.inl ((i:Nat):Int):Key),V.ref (ad i))) (Sum.inl ((j:Nat):Int)) (.ref g)=(js++[j]).map fun i=>((Sum.inl ((i:Nat):Int):Key),V.ref (up ad j g i)):=by
 unfold putK
 rw[if_neg (fun y=>by
  obtain⟨q,hq,e⟩:=List.any_eq_true.mp y
  obtain⟨i,hi,rfl⟩:=kY.mp hq
  have:=Sum.inl.inj (kK e)
  exact hj (by rw[show j=i from by lia];exact hi)),yK,yX,jYb,Xm]
 congr 1
 refine xZ fun i hi=>?_
 rw[Xd (fun y=>hj (by rw[<-y];exact hi))]
theorem Qny{js:List Nat}{ad:Nat->Addr}{t:Nat}:Qev (js.map fun i=>((Sum.inl ((i:Nat):Int):Key),V.ref (ad i))) (Sum.inl ((t:Nat):Int))=(js.filter fun i=>decide (i≠t)).map fun i=>((Sum.inl ((i:Nat):Int):Key),V.ref (ad i)):=by
 unfold Qev
 rw[List.filter_map]
 congr 1
 refine List.filter_congr fun i _=>?_
 show decide ((Sum.inl ((i:Nat):Int):Key)≠Sum.inl ((t:Nat):Int))=_
 exact decide_eq_decide.mpr ⟨fun h y=>h (by rw[y]),fun h y=>h (by have:=Sum.inl.inj y;lia)⟩
theorem Qlg{js1 js:List Nat}{ad:Nat->Addr}(nd:(js.map ad).Nodup)(hs:∀j∈js1,j∈js)(n1:js1.Nodup):(js1.map ad).Nodup:=by
 have inj:∀i∈js,∀j∈js,ad i=ad j->i=j:=by
  clear hs n1
  induction js with
  |nil=>exact fun i hi=>nomatch hi
  |cons k js ih=>
   rw[yX,kJ]at nd
   intro i hi j hj e
   rcases kQ.mp hi with h1 | h1<;>rcases kQ.mp hj with h2 | h2
   .rw[h1,h2]
   .exact absurd (by rw[<-h1,e];exact kY.mpr ⟨j,h2,rfl⟩) nd.1
   .exact absurd (by rw[<-h2,<-e];exact kY.mpr ⟨i,h1,rfl⟩) nd.1
   .exact ih nd.2 i h1 j h2 e
 clear nd
 induction js1 with
 |nil=>exact jKd
 |cons k js1 ih=>
  rw[yX,kJ]
  rw[kJ]at n1
  refine⟨fun h=>?_,ih (fun j hj=>hs j (yZ _ hj)) n1.2⟩
  obtain⟨i,hi,e⟩:=kY.mp h
  exact n1.1 (by rw[inj k (hs k (yV ..)) i (hs i (yZ _ hi)) e.symm];exact hi)
theorem Qnz{js:List Nat}{ad:Nat->Addr}{j:Nat}{g:Addr}(nd:(js.map ad).Nodup)(hg:∀w∈js.map ad,g=ad j\/g≠w):(js.map (up ad j g)).Nodup:=by
 by_cases c:g=ad j
 .have e:up ad j g=ad:=by rw[c];exact Qgu
  rw[e];exact nd
 .have hg':g∉js.map ad:=fun h=>(hg g h).elim c fun y=>y rfl
  clear hg
  induction js with
  |nil=>exact jKd
  |cons k js ih=>
   rw[yX,kJ]at nd⊢
   rw[yX,kQ,not_or]at hg'
   refine⟨fun h=>?_,ih nd.2 hg'.2⟩
   obtain⟨i,hi,e⟩:=kY.mp h
   by_cases y:i=j
   .by_cases w:k=j
    .rw[w]at nd;rw[y]at hi;exact nd.1 (kY.mpr ⟨j,hi,rfl⟩)
    .rw[y,Xm,Xd w]at e;exact hg'.1 e
   .by_cases w:k=j
    .rw[w,Xm,Xd y]at e;exact hg'.2 (by rw[<-e];exact kY.mpr ⟨i,hi,rfl⟩)
    .rw[Xd y,Xd w]at e;exact nd.1 (by rw[<-e];exact kY.mpr ⟨i,hi,rfl⟩)
theorem Qlh{t c:Nat}{side:Int}(S:Tab K C H0 H p a b z)(B:Brk b.n b.N b.F b.lo z.o z.one t side)(hc:c<b.n)(hh:0<hp b.n b.F z.o z.one t side c){g:Nat->Int}(hg:∀j,In18 (g j)):Rnw b.n c (scl b.n b.F z.o) (Ln b.n b.F z.o g) (Ln b.n b.F z.o (b.F t)) (Ln b.n b.F (up z.o c t) g) (Vo b.n b.F b.lo z.o z.one g) (Vo b.n b.F b.lo z.o z.one (b.F t)-et b.lo t side*scl b.n b.F z.o) (Vo b.n b.F b.lo (up z.o c t) (one' z.one c side) g):=by
 have hp0:=Kt hh
 have e:=Qqt S.st.ba hp0 hc g (en b.lo z.o z.one) (et b.lo t side)
 have v1:=Qkp S.ok (o:=z.o) (one:=z.one) hg
 have v2:=Qkp S.ok (o:=z.o) (one:=z.one) (S.ok.F t)
 have s2:=Qdz S.ok (o:=z.o)
 have cx:=cxy
 have e3:-(B18*Cx)<=et b.lo t side*scl b.n b.F z.o/\et b.lo t side*scl b.n b.F z.o<=B18*Cx:=Qbd (by
  unfold et
  split
  .exact Qko
  .exact S.ok.lo t) s2
 have e4:B18*Cx<=Cy:=Dk
 have e5:0<Cy:=Dk
 refine⟨hc,Xp S.st.ba,hp0,Vx hp0 g,fun k hk ne=>Vy S.st.ba hp0 hc hk ne g,?_,fun k=>?_,fun k=>?_,Ji Om⟩
 .unfold Vo Vl
  rw[en_up B.sd,e,wX (et b.lo t side)]
 .unfold LnF
  split
  .have:=Qcj S.ok (o:=z.o) hg k;exact Ji Om
  .exact Ji Om
 .unfold LnF
  split
  .have:=Qcj S.ok (o:=z.o) (S.ok.F t) k;exact Ji Om
  .exact Ji Om
end
theorem Qoa{K:Fg}{C:Addr}{H0 H:Hp}{p:Addr}{a:TbA}{b:Pb}{z:TbS}{t c:Nat}{side:Int}(S:Tab K C H0 H p a b z)(B:Brk b.n b.N b.F b.lo z.o z.one t side)(hc:c<b.n)(hh:0<hp b.n b.F z.o z.one t side c)(fn:z.o c<b.n) :
  Ln b.n b.F (up z.o c t) (b.F (z.o c)) c=- -sgn (Ln b.n b.F z.o (b.F t) c)*scl b.n b.F z.o/\(∀k,k<b.n->k≠c->Ln b.n b.F (up z.o c t) (b.F (z.o c)) k=-sgn (Ln b.n b.F z.o (b.F t) c)*Ln b.n b.F z.o (b.F t) k) /\
  Vo b.n b.F b.lo (up z.o c t) (one' z.one c side) (b.F (z.o c))=-sgn (Ln b.n b.F z.o (b.F t) c)*(Vo b.n b.F b.lo z.o z.one (b.F t)-et b.lo t side*scl b.n b.F z.o)+(if z.one c=true then ab (Ln b.n b.F z.o (b.F t) c)else 0):=by
 have R:=Qlh S B hc hh (S.ok.F (z.o c))
 have s0:=R.s0
 have can:∀u v:Int,scl b.n b.F z.o*u=scl b.n b.F z.o*v->u=v:=fun u v h=>kJc Om h
 have e1:Ln b.n b.F z.o (b.F (z.o c)) c=scl b.n b.F z.o:=by rw[We hc hc,if_pos rfl]
 refine⟨by rw[R.at',e1,Int.neg_neg],fun k hk ne=>can _ _ ?_,can _ _ ?_⟩
 .rw[R.ne k hk ne,e1,We hc hk,if_neg (fun y=>ne y.symm)]
  grind
 .rw[R.la,e1,Qcs hc]
  unfold en
  by_cases d:z.one c=true
  .rw[if_pos d,if_pos d];grind
  .rw[if_neg d,if_neg d,b.fx.l0 _ fn];grind
abbrev sExc:Stmt:=inClass (top 18) 22
inductive spExc(K:Fg)(C:Addr)(vs:List V)(H:Hp)(Q:VK)(E:XK):Prop|mk(H0:Hp)(p:Addr)(a:TbA)(b:Pb)(z:TbS)(t:Nat)(x:Addr)(c:Nat)(side:Int)(_:vs=[.ref p,.int t,.ref x,.int c,.int side])(_:Tab K C H0 H p a b z)(_:Brk b.n b.N b.F b.lo z.o z.one t side)(_:c<b.n)(_:0<hp b.n b.F z.o z.one t side c)(_:LnA H x b.n (Ln b.n b.F z.o (b.F t)) (Vo b.n b.F b.lo z.o z.one (b.F t)-et b.lo t side*scl b.n b.F z.o))(_:x∉tbM a z)(_:H0 x=none)(_:∀(z':TbS) (H':Hp),Tab K C H0 H' p a b z'->z'.o=up z.o c t->z'.one=one' z.one c side->Q .non H'):spExc K C vs H Q E
section
variable{P:Program}{w:World}{K:Fg}{mg:Str->Option Value}{base:Heap}
theorem scExc:FnScope ["self","thing","line","column","side","one","numbers","choice","freed","sign"] ["self","thing","line","column","side"] (Qg sExc):=⟨rfl,rfl,rfl,Dk,rfl,Dk,Dk⟩
theorem okExc{f C:Addr}{fd:FuncData}(F:Fun K "exchange" "Tableau.exchange" sExc f fd)(M:Mg mg)(T:TbTxt K mg C){f_end:Addr}{fd_end:FuncData}(G_end:FnOk P w K mg base CX0 1 f_end fd_end ["self","choice","side"] (Qkr K C))(b_end:Binds K fd_end ["self","choice","side"] [])(m_end:Meth K C "end" f_end)(c_renewed:Cal P w K mg base 1 "renewed" ["other","line","column","scale"] (spRnw K)):FnOk P w K mg base CX0 2 f fd ["self","thing","line","column","side"] (spExc K C):=by
 refine F.ok scExc (fun vs H Q E h=>?_) (fun cdv A outer s H vs Q E hr h=>?_)
 .obtain⟨H0,p,a,b,z,t,x,c,side,rfl,_⟩:=h
  rfl
 obtain⟨H0,p,a,b,z,t,x,c,side,rfl,S,B,hc,hh,hL,hx,hx0,q⟩:=h
 have hu:(A.deeper (PyProof.Rows.envOfC "Tableau.exchange" (Qg sExc) s.heap.objs.size f cdv)).units+1<cLine:=zQ (zZ Dc _) hr.un
 refine⟨_,(Qb (Qp (i:=5) scExc.nd rfl (Or.inl rfl) (Yj Wk (Xf (pv 0) T.cl m_end G_end (hr.mono Dc) b_end .nil Yq (Qa (pv 1) (Qa (pv 4) Qe))) Qf (Qt _)))
  (Qb (Qp (i:=6) scExc.nd rfl (Or.inl rfl) (Qn Yi (Qn Xu (Qn Yi (Ql Qdq rfl M.len Xl (Qa (Qq (pv 0) rfl) Qe)) Qf) (Qq (pv 0) rfl)) (Qn Xu (Ql Qm rfl M.len Xl (Qa (Qq (pv 0) rfl) Qe)) (Ql Qdq rfl M.len Xl (Qa (Qq (pv 0) rfl) Qe)))))
  (Qb (Qjg (pv 0) (Qn Xu (pv 6) (Qn Yi Qf (Qn Zj (pe_bm0 PySem.F.plainAttrs_int PySem.F.slot_int_bit_length PySem.F.type_int_bit_length Qry (Qq (pv 0) rfl)) Qf))) in_add)
  (Qb (Ys (Qnl (Qq (pv 0) rfl) (pv 1) Ye ⟨rfl,rfl,rfl,rfl⟩))
  (Qb (Yf PassesOwn.never rfl (Xn (Qz (Qhm rfl) rfl M.list_ Yv (Qa (Qq (pv 0) rfl) Qe))) (Qx (i:=7) scExc.nd rfl (Or.inl rfl) (Or.inl rfl)) (Qi (Qex hu (Qq (pv 0) rfl) (pv 7) (Xh c_renewed (hr.mono Dc) (Qa (Jp hu (Qq (pv 0) rfl) (pv 7) (fun _ _=>rfl)) (Qa (pv 2) (Qa (pv 3) (Qa (Qq (pv 0) rfl) Qe))))) rfl)))
  (Qb (Zp (pv 0) (Zm ["prices","self","line","column"] [none,some 0,some 2,some 3] rfl (Xn (Qq (pv 0) rfl)) (fun _ _ _=>(Qx (i:=0) (show(["prices","self","line","column"]:List Str).Nodup by decide +kernel) rfl (Or.inl rfl) (Or.inr rfl))) (fun _ _ _=>Xy) (fun _ _ _=>(Xh c_renewed (hr.mono Dc) (Qa (pv 0) (Qa (pv 2) (Qa (pv 3) (Qa (Qfb (K:=K) rfl (pv 1) rfl) Qe))))))) rfl)
  (Qb (Qp (i:=8) scExc.nd rfl (Or.inl rfl) (Qo Qw (Qq (pv 0) rfl) (pv 3) (fun _ _=>rfl)))
  (Qb (Xi (Qr Jo (pv 8) (Qq (pv 0) rfl) (Qt _)) (Qb (Qp (i:=9) scExc.nd rfl (Or.inr rfl) (Zq (Qr Wk (Qo Qw (pv 2) (pv 3) (fun _ _=>rfl)) Qf (Qt _)) (Ze Ya Qf) Qf))
  (Qb (Zx (i:=6) ["number","sign"] [none,some 9] rfl scExc.nd rfl (Or.inl rfl) (Xn (pv 2)) (fun _ _ _=>(Qx (i:=0) (show(["number","sign"]:List Str).Nodup by decide +kernel) rfl (Or.inl rfl) (Or.inr rfl))) (fun _ _ _=>Xy) (fun _ _ _=>(Qn Xu (pv 1) (pv 0))))
  (Qb (Js (Qn Xu (Ze Ya (pv 9)) (Qq (pv 0) rfl)) (Jx (pv 6) (pv 3) set_list))
  (Qb (Xi (Xj (Qo Qw (Qq (pv 0) rfl) (pv 3) (fun _ _=>rfl))) (Qi (Ve (pv 6) (Ze Ya Qf) Kd (Ql Zl rfl M.abs Kj (Qa (Qo Qw (pv 2) (pv 3) (fun _ _=>rfl)) Qe)) Qar set_list)) Qv)
  (Qi (Qex hu (Qq (pv 0) rfl) (pv 8) (pv 6) rfl)))))) Qv)
  (Qb (Zp (pv 0) (Ql Zl rfl M.abs Kj (Qa (Qo Qw (pv 2) (pv 3) (fun _ _=>rfl)) Qe)) rfl)
  (Qb (Js (pv 1) (Jx (Qq (pv 0) rfl) (pv 3) set_list))
  (Qi (Js (pv 5) (Jx (Qq (pv 0) rfl) (pv 3) set_list))))))))))))),?_⟩
 have hz:(1000:Nat)<sizeLine:=Dc
 have n7:=S.ok.n7
 have m7:=S.ok.m7
 have jl:=S.jlen
 have hp0:=Kt hh
 have sc0:=Xp S.st.ba
 obtain⟨us,hu,hup⟩:=S.ro.pa
 have lu:us.length=b.m:=Paired.length hup
 refine⟨_,rfl,S.mt ⟨_,rfl,_,rfl,H0,p,a,b,z,t,side,rfl,S,_,_,rfl,rfl,?_⟩⟩
 have e1:decide ((0:Int)<et0 side*scl b.n b.F z.o)=decide (side=-1):=decide_eq_decide.mpr (by
  unfold et0
  by_cases y:side=-1
  .rw[if_pos y];exact⟨fun _=>y,fun _=>Om⟩
  .rw[if_neg y];exact⟨fun h=>Om,fun h=>absurd h y⟩)
 obtain⟨dx,fs,o1,o2,o3⟩:=id S.ob
 have mw:("work":Str)∈tbN:=by unfold tbN;simp
 have pr1:∀u v:Int,0<=u->u<=10->0<=v->v<=10->0<=u*v/\u*v<=100:=fun u v h1 h2 h3 h4=>⟨jXf h1 h3,by have:=Int.mul_le_mul h2 h4 h3 (by decide:(0:Int)<=10);lia⟩
 have k1:=pr1 ((((z.js.map fun j=>((Sum.inl ((j:Nat):Int):Key),V.ref (z.ad j))).length:Nat):Int)+3) ((b.n:Nat):Int) Om (by rw[jQ];lia) Om Om
 have k2:=pr1 ((us.length:Nat):Int) (((z.js.map fun j=>((Sum.inl ((j:Nat):Int):Key),V.ref (z.ad j))).length:Nat):Int) Om Om Om (by rw[jQ];lia)
 refine⟨_,rfl,S.inner T ⟨a.inn,_,rfl,S.inn,_,_,rfl,rfl,_,rfl,S.size T ⟨_,_,rfl,rfl,.inr ⟨Om,Om⟩,_,rfl,S.parts T ⟨_,_,rfl,.inl (S.ba.seq hu),_,rfl,S.inner T ⟨a.inn,_,rfl,S.inn,_,_,rfl,rfl,.inl ⟨Om,Om⟩,_,_,rfl,rfl,?_⟩⟩⟩⟩⟩
 refine Qcl ?_
 refine S.ob.augW T rfl (fun Q' q'=>⟨_,rfl,_,rfl,S.scale T ⟨rfl,_,rfl,rfl,_,_,rfl,rfl,⟨Dc,Dc⟩,_,_,rfl,rfl,_,_,rfl,rfl,.inl ⟨Om,Om⟩,q' _⟩⟩) fun W o4 ob1=>?_
 have k1:∀c u,H c=some u->c≠p->upd H p o4 c=some u:=fun c u h n=>by rw[Qj n];exact h
 generalize upd H p o4=H1 at ob1 k1
 have kH:=k1
 have neP:∀{c:Addr} {u:HO},H c=some u->(∀dx fs,u≠.ins C dx fs)->c≠p:=fun h n y=>by rw[y,o1]at h;exact n _ _ (Option.some.inj h).symm
 have lst1:∀{c:Addr} {xs:List V},H c=some (.lst xs)->H1 c=some (.lst xs):=fun h=>k1 _ _ h (neP h fun _ _ y=>by cases y)
 have inn1:=k1 _ _ S.inn (neP S.inn fun _ _ y=>by cases y)
 have tj:t<b.n->t∈z.js:=fun h=>(S.all h).resolve_left fun⟨k,hk,e⟩=>B.out b.fx S.st hk e
 dsimp only
 refine Qcm (fun σ' H2=>(∃u:Option V,σ'=[some (.ref p),some (.int t),some (.ref x),some (.int c),some (.int side),some (.bl (decide (side=-1))),u,none,none,none])/\(∀c u,H1 c=some u->c≠a.inn->H2 c=some u)/\H2 a.inn=some (.dK ((z.js.filter fun i=>decide (i≠t)).map fun j=>((Sum.inl ((j:Nat):Int):Key),V.ref (z.ad j))))) ?_ fun REST=>?_
 rotate_left
 .refine⟨_,rfl,ob1.inner T ⟨a.inn,rfl,.inl ⟨_,.inl inn1⟩,_,rfl,_,Sum.inl ((t:Nat):Int),inn1,rfl,fun v _=>?_,fun e=>?_⟩⟩
  .refine REST _ _ ⟨⟨_,by rw[<-e1];rfl⟩,fun c u h n=>by rw[Qj n];exact h,by rw[Qc,Qny]⟩
  .refine REST _ _ ⟨⟨_,by rw[<-e1];rfl⟩,fun c u h _=>h,?_⟩
   have ef:z.js.filter (fun i=>decide (i≠t))=z.js:=List.filter_eq_self.mpr fun i hi=>kW fun y=>by
    rw[valV_js,if_pos (by rw[<-y];exact hi)]at e
    cases e
   rw[inn1,ef]
 rintro σ' H2 ⟨⟨u6,rfl⟩,k2,d2⟩
 have jm1:∀j,j∈z.js.filter (fun i=>decide (i≠t))↔j∈z.js/\j≠t:=fun j=>by rw[jYa,decide_eq_true_iff]
 have jn1:(z.js.filter fun i=>decide (i≠t)).Nodup:=S.jn.filter _
 have jl1:(z.js.filter fun i=>decide (i≠t)).length<=z.js.length:=jXe _ _
 generalize z.js.filter (fun i=>decide (i≠t))=js1 at jm1 jn1 d2 jl1
 have neI:∀{c:Addr} {u:HO},H c=some u->(∀kvs,u≠.dK kvs)->c≠a.inn:=fun h n y=>by rw[y,S.inn]at h;exact n _ (Option.some.inj h).symm
 have lst2:∀{c:Addr} {xs:List V},H c=some (.lst xs)->H2 c=some (.lst xs):=fun h=>k2 _ _ (lst1 h) (neI h fun _ y=>by cases y)
 have pI:p≠a.inn:=neI o1 fun _ y=>by cases y
 have ob2:TbO C H2 p a b { z with wk:=W }:=by
  obtain⟨dx',fs',h1,h2,h3⟩:=ob1
  exact⟨dx',fs',k2 _ _ h1 pI,h2,h3⟩
 clear ob1 k1 o4 inn1
 refine⟨_,rfl,ob2.inner T ⟨a.inn,_,rfl,d2,fun G hG=>?_⟩⟩
 rw[xW]
 have s3:=Qd hG (.lst (js1.map ((fun p:Key×V=>kV p.1)∘fun j=>((Sum.inl ((j:Nat):Int):Key),V.ref (z.ad j)))))
 have hG3:upd H2 G (.lst (js1.map ((fun p:Key×V=>kV p.1)∘fun j=>((Sum.inl ((j:Nat):Int):Key),V.ref (z.ad j))))) G=some (.lst (js1.map fun j=>V.int ((j:Nat):Int))):=Qc
 have n3:∀{c:Addr},upd H2 G (.lst (js1.map ((fun p:Key×V=>kV p.1)∘fun j=>((Sum.inl ((j:Nat):Int):Key),V.ref (z.ad j))))) c=none->H2 c=none:=fun{c} h=>by
  cases e:H2 c with
  |none=>rfl
  |some u=>rw[s3 _ _ e]at h;cases h
 generalize upd H2 G (.lst (js1.map ((fun p:Key×V=>kV p.1)∘fun j=>((Sum.inl ((j:Nat):Int):Key),V.ref (z.ad j)))))=H3 at s3 hG3 n3
 have d3:=s3 _ _ d2
 have GI:G≠a.inn:=Yl hG3 d3 (by intro y;cases y)
 have ob3:TbO C H3 p a b { z with wk:=W }:=by
  obtain⟨dx',fs',h1,h2,h3⟩:=ob2
  exact⟨dx',fs',s3 _ _ h1,h2,h3⟩
 have lst3:∀{c:Addr} {xs:List V},H c=some (.lst xs)->H3 c=some (.lst xs):=fun h=>s3 _ _ (lst2 h)
 have obK:∀{z':TbS} {Ha Hb:Hp},TbO C Ha p a b z'->(∀c u,Ha c=some u->c≠a.inn->Hb c=some u)->TbO C Hb p a b z':=fun⟨dx',fs',h1,h2,h3⟩ k=>⟨dx',fs',k _ _ h1 pI,h2,h3⟩
 have xI:x≠a.inn:=neI hL fun _ y=>by cases y
 refine⟨G,rfl,⟨_,Qh hG3⟩,Ym (xs:=js1.map fun j=>V.int ((j:Nat):Int)) (fun i σ H4=>∃(u7:Option V) (ad1:Nat->Addr),σ=[some (.ref p),some (.int t),some (.ref x),some (.int c),some (.int side),some (.bl (decide (side=-1))),u6,u7,none,none]/\(∀c u,H3 c=some u->c≠a.inn->H4 c=some u)/\H4 a.inn=some (.dK (js1.map fun j=>((Sum.inl ((j:Nat):Int):Key),V.ref (ad1 j))))/\(∀(idx j:Nat),js1[idx]?=some j->LnA H4 (ad1 j) b.n (if idx<i then Ln b.n b.F (up z.o c t) (b.F j)else Ln b.n b.F z.o (b.F j)) (if idx<i then Vo b.n b.F b.lo (up z.o c t) (one' z.one c side) (b.F j)else Vo b.n b.F b.lo z.o z.one (b.F j))/\(ad1 j=z.ad j\/H3 (ad1 j)=none))/\(js1.map ad1).Nodup)
  ⟨none,z.ad,rfl,fun c u h _=>h,d3,fun idx j h=>⟨?_,.inl rfl⟩,?_⟩ (fun i σ H4 _ ⟨_,_,_,k4,_⟩=>Qh (k4 _ _ hG3 GI)) ?_ ?_⟩
 .rw[if_neg (xK _),if_neg (xK _)]
  exact lst3 (S.lns j ((jm1 j).mp (yQ h)).1)
 .have nd:=S.nd
  rw[kJ,kJ,kJ,kJ,kJ]at nd
  exact Qlg nd.2.2.2.2.2 (fun j hj=>((jm1 j).mp hj).1) jn1
 .rintro i y σ H4 e1' ⟨u7,ad1,rfl,k4,d4,l4,nd4⟩
  rw[jJ]at e1'
  cases e2:js1[i]? with
  |none=>rw[e2]at e1';cases e1'
  |some j=>
   rw[e2]at e1'
   cases e1'
   have hj:=yQ e2
   obtain⟨hl,hf⟩:=l4 i j e2
   rw[if_neg (wW _),if_neg (wW _)]at hl
   have ob4:=obK ob3 k4
   have hx4:LnA H4 x b.n _ _:=k4 _ _ (lst3 hL) xI
   refine⟨_,rfl,ob4.inner T ⟨_,rfl,a.inn,_,rfl,.inl ⟨_,Sum.inl ((j:Nat):Int),.inl d4,rfl,(valV_js.trans (if_pos hj)).symm⟩,_,rfl,_,rfl,_,rfl,ob4.scale T ⟨ad1 j,x,b.n,c,_,_,_,_,_,_,_,rfl,n7,hl,hx4,Qlh S B hc hh (S.ok.F j),fun g H5 s5 hg hL5=>?_⟩⟩⟩
   have ob5:=obK ob4 fun c u h _=>s5 c u h
   have d5:=s5 _ _ d4
   have gI:g≠a.inn:=Yl hL5 d5 (by intro y;cases y)
   refine⟨_,rfl,ob5.inner T ⟨_,rfl,a.inn,_,rfl,.inl ⟨_,Sum.inl ((j:Nat):Int),d5,rfl,by rw[jQ];lia,rfl⟩,some (.int ((j:Nat):Int)),up ad1 j g,rfl,fun c u h n=>?_,?_,fun idx i' he=>?_,?_⟩⟩
   .rw[Qj n];exact s5 _ _ (k4 c u h n)
   .rw[Qc,Qsg hj]
   .have ij:idx=i↔i'=j:=⟨fun y=>by rw[y,e2]at he;exact(Option.some.inj he).symm,fun y=>by
     rw[y]at he
     obtain⟨c1,c2⟩:=jW.mp he
     obtain⟨i1,i2⟩:=jW.mp e2
     rcases Nat.lt_trichotomy idx i with w | w | w
     .exact absurd (c2.trans i2.symm) (jKa.mp jn1 idx i c1 i1 w)
     .exact w
     .exact absurd (i2.trans c2.symm) (jKa.mp jn1 i idx i1 c1 w)⟩
    by_cases y:i'=j
    .have y2:=ij.mpr y
     subst y2
     subst y
     rw[Xm,if_pos (jJd _),if_pos (jJd _)]
     refine⟨IlA.upd hL5 gI,?_⟩
     rcases hg with w | w
     .rw[w];exact hf
     .right
      cases e:H3 g with
      |none=>rfl
      |some u=>rw[k4 g u e gI]at w;cases w
    .have y2:idx≠i:=fun w=>y (ij.mp w)
     obtain⟨l1,l2⟩:=l4 idx i' he
     rw[Xd y]
     refine⟨IlA.upd (s5 _ _ ?_) (Yl l1 d4 (by intro y;cases y)),l2⟩
     by_cases w:idx<i
     .rw[if_pos w,if_pos w]at l1
      rw[if_pos (jKc w),if_pos (jKc w)]
      exact l1
     .rw[if_neg w,if_neg w]at l1
      rw[if_neg Om,if_neg Om]
      exact l1
   .refine Qnz nd4 fun w hw=>?_
    rcases hg with y | y
    .exact .inl y
    .right
     obtain⟨i',hi',rfl⟩:=kY.mp hw
     obtain⟨idx,he⟩:=kQe.mp hi'
     exact fun q=>by
      have:=(l4 idx i' he).1
      unfold LnA IlA at this
      rw[<-q,y]at this
      cases this
 rintro σ H4 ⟨u7,ad1,rfl,k4,d4,l4,nd4⟩
 have l4':∀j∈js1,LnA H4 (ad1 j) b.n (Ln b.n b.F (up z.o c t) (b.F j)) (Vo b.n b.F b.lo (up z.o c t) (one' z.one c side) (b.F j))/\(ad1 j=z.ad j\/H3 (ad1 j)=none):=fun j hj=>by
  obtain⟨idx,he⟩:=kQe.mp hj
  have h:=l4 idx j he
  have hi:=(jW.mp he).1
  rw[if_pos (by rw[jQ];exact hi),if_pos (by rw[jQ];exact hi)]at h
  exact h
 clear l4
 have ob4:=obK ob3 k4
 have lst4:∀{c:Addr} {xs:List V},H c=some (.lst xs)->H4 c=some (.lst xs):=fun h=>k4 _ _ (lst3 h) (neI h fun _ y=>by cases y)
 have n4:∀{c:Addr},H4 c=none->H3 c=none:=fun{c} h=>by
  cases e:H3 c with
  |none=>rfl
  |some u=>
   by_cases y:c=a.inn
   .rw[y,d4]at h;cases h
   .rw[k4 c u e y]at h;cases h
 refine⟨_,rfl,ob4.prices T ⟨z.pr,rfl,⟨_,Qh (lst4 S.pr)⟩,fun D hD=>?_⟩⟩
 have nn0:=S.nd
 let Pv8:Nat->St->List V->Hp->Prop:=fun i τ ys H5=>∃(v:Option V) (gs:List Addr),τ=v::[some (.ref p),some (.ref x),some (.int c)]/\ys=gs.map V.ref/\gs.length=i/\H5 D=some (.lst ys)/\Same H4 H5/\gs.Nodup/\∀(idx:Nat) (g:Addr),gs[idx]?=some g->g≠D/\∃gf pi,((idx=0/\gf=b.cA/\pi=z.p0)\/(idx=1/\gf=unl/\pi=z.p1))/\LnA H5 g b.n (Ln b.n b.F (up z.o c t) gf) (Vo b.n b.F b.lo (up z.o c t) (one' z.one c side) gf)/\(g=pi\/H4 g=none)
 refine Kk (n:=2) Pv8 ?_ (fun i τ ys H5 hi h=>?_) (fun i τ ys H5 hi h=>?_) (fun τ ys H5 h=>?_) ?_ ?_
 .exact⟨none,[],rfl,rfl,rfl,Qc,Qd hD _,jKd,fun idx g h=>nomatch h⟩
 .obtain⟨v,gs,rfl,rfl,hl,h5,_⟩:=h
  exact⟨h5,by rw[jQ];lia⟩
 .obtain⟨v,gs,rfl,rfl,hl,h5,s5,_⟩:=h
  have hi2:i<([.ref z.p0,.ref z.p1]:List V).length:=hi
  exact⟨_,_,s5.seq (Qh (lst4 S.pr)),gE hi2⟩
 .obtain⟨v,gs,rfl,rfl,hl,h5,s5,_⟩:=h
  exact⟨_,s5.seq (Qh (lst4 S.pr)),jY 2⟩
 .rintro i τ ys H5 v H5' hi ⟨v0,gs,rfl,rfl,hl,h5,s5,gnd,hgs⟩ ⟨rfl,e2⟩
  have e3:=e2 _ (s5.seq (Qh (lst4 S.pr)))
  obtain⟨y,gf,rfl,hgf,hy,hi2⟩:=S.prL e3
  have hy5:=s5 _ _ (lst4 hy)
  have hx5:=s5 _ _ (lst4 hL)
  have ob5:=obK ob4 fun c u h _=>s5 c u h
  refine⟨_,rfl,_,rfl,_,rfl,_,rfl,ob5.scale T ⟨y,x,b.n,c,_,_,_,_,_,_,_,rfl,n7,hy5,hx5,Qlh S B hc hh hgf,fun g H6 s6 hg hL6=>⟨s6 _ _ h5,_,gs++[g],rfl,by rw[yK];rfl,by rw[kZ,hl];rfl,Qc,fun c u e=>?_,?_,fun idx g' he=>?_⟩⟩⟩
  .rw[Qj (Qk e hD)];exact s6 _ _ (s5 _ _ e)
  .rw[kXa]
   refine⟨gnd,kKc _ _,fun u hu w hw e=>?_⟩
   rw[yW.mp hw]at e
   obtain⟨idx,he⟩:=kQe.mp hu
   obtain⟨_,gf',pi,hpi,hl',hor⟩:=hgs idx u he
   have hidx:=(jW.mp he).1
   rcases hg with q' | q'
   .rcases hi2 with⟨r1,_⟩ | ⟨r1,r2⟩
    .omega
    .rcases hpi with⟨w1,w2,w3⟩ | ⟨w1,_⟩
     .have ey:y=z.p1:=by rw[r1]at e3;exact(V.ref.inj (Option.some.inj e3)).symm
      rcases hor with q2 | q2
      .rw[kJ,kJ,kJ,kJ]at nn0
       exact nn0.2.2.2.1 (by rw[<-w3,<-q2,e,q',ey];exact yV ..)
      .rw[e,q',ey]at q2
       rw[lst4 S.l1]at q2
       cases q2
     .omega
   .have:=hl'
    unfold LnA IlA at this
    rw[e,q']at this
    cases this
  .by_cases y1:idx<gs.length
   .rw[jZa y1]at he
    obtain⟨q1,gf',pi,q2,q3,q4⟩:=hgs idx g' he
    exact⟨q1,gf',pi,q2,IlA.upd (s6 _ _ q3) q1,q4⟩
   .have y2:=(jW.mp he).1
    rw[kZ]at y2
    have y2':idx<gs.length+1:=y2
    have y3:idx=gs.length:=Om
    subst y3
    rw[wZ (jY _),kZf]at he
    cases he
    have gD:g≠D:=fun w=>by
     rcases hg with q' | q'
     .rw[<-w,q']at hD;rw[lst4 hy]at hD;cases hD
     .rw[w,h5]at q';cases q'
    refine⟨gD,gf,y,?_,IlA.upd hL6 gD,hg.imp_right fun q'=>?_⟩
    .rw[hl]
     rcases hi2 with⟨r1,r2⟩ | ⟨r1,r2⟩
     .left;rw[r1]at e3;exact⟨r1,r2,(V.ref.inj (Option.some.inj e3)).symm⟩
     .right;rw[r1]at e3;exact⟨r1,r2,(V.ref.inj (Option.some.inj e3)).symm⟩
    .cases e:H4 g with
     |none=>rfl
     |some u=>rw[s5 _ _ e]at q';cases q'
 rintro τ ys H5 ⟨v,gs,rfl,rfl,hgl,h5,s5,gnd,hgs⟩
 obtain⟨g0,g1,rfl⟩:∃g0 g1,gs=[g0,g1]:=by
  match gs,hgl with
  |[g0,g1],_=>exact⟨g0,g1,rfl⟩
 obtain⟨g0D,gf,pi,hg0,hL0,hor0⟩:=hgs 0 g0 rfl
 obtain⟨g1D,gf',pi',hg1,hL1,hor1⟩:=hgs 1 g1 rfl
 obtain⟨rfl,rfl⟩:gf=b.cA/\pi=z.p0:=by rcases hg0 with⟨_,h1,h2⟩ | ⟨h1,_⟩;exact⟨h1,h2⟩;lia
 obtain⟨rfl,rfl⟩:gf'=unl/\pi'=z.p1:=by rcases hg1 with⟨h1,_⟩ | ⟨_,h1,h2⟩;lia;exact⟨h1,h2⟩
 clear hgs hg0 hg1 hgl
 have g01:g0≠g1:=fun y=>(kJ.mp gnd).1 (by rw[y];exact yV ..)
 have ob5:=obK ob4 fun c u h _=>s5 c u h
 refine⟨_,rfl,ob5.setF (z2:={ z with wk:=W,pr:=D }) T (by unfold tbN;simp) Qse (fun x=>tbL_pr x) fun o6 ob6=>?_⟩
 have k6:∀c u,H4 c=some u->c≠p->upd H5 p o6 c=some u:=fun c u h n=>by rw[Qj n];exact s5 _ _ h
 obtain⟨dx4,fs4,p4,_⟩:=id ob4
 have lp:∀{c:Addr} {xs:List V} {Ha:Hp},Ha c=some (.lst xs)->(∃dx fs,Ha p=some (.ins C dx fs))->c≠p:=fun h ⟨dx,fs,h'⟩=>Yl h h' (by intro y;cases y)
 obtain⟨dx5,fs5,p5,_⟩:=id ob5
 have D6:upd H5 p o6 D=some (.lst [.ref g0,.ref g1]):=by rw[Qj (lp h5 ⟨_,_,p5⟩)];exact h5
 have hL06:LnA (upd H5 p o6) g0 b.n _ _:=IlA.upd hL0 (lp hL0 ⟨_,_,p5⟩)
 have hL16:LnA (upd H5 p o6) g1 b.n _ _:=IlA.upd hL1 (lp hL1 ⟨_,_,p5⟩)
 have n6:∀{c:Addr},upd H5 p o6 c=none->H4 c=none:=fun{c} h=>by
  cases e:H4 c with
  |none=>rfl
  |some u=>
   by_cases y:c=p
   .rw[y,Qc]at h;cases h
   .rw[k6 c u e y]at h;cases h
 generalize upd H5 p o6=H6 at ob6 k6 D6 hL06 hL16 n6
 have lst6:∀{c:Addr} {xs:List V},H c=some (.lst xs)->H6 c=some (.lst xs):=fun h=>k6 _ _ (lst4 h) (lp (lst4 h) ⟨_,_,p4⟩)
 have d6:=k6 _ _ d4 (Ne.symm pI)
 have l6:∀j∈js1,LnA H6 (ad1 j) b.n (Ln b.n b.F (up z.o c t) (b.F j)) (Vo b.n b.F b.lo (up z.o c t) (one' z.one c side) (b.F j))/\(ad1 j=z.ad j\/H3 (ad1 j)=none):=fun j hj=>⟨k6 _ _ (l4' j hj).1 (lp (l4' j hj).1 ⟨_,_,p4⟩),(l4' j hj).2⟩
 have hL6:LnA H6 x b.n _ _:=lst6 hL
 have ou6:=lst6 S.ou
 have on6:=lst6 S.on
 refine⟨_,rfl,ob6.outer T ⟨_,rfl,ixR ou6 hc ?_⟩⟩
 have fo:z.o c∉js1:=fun y=>((S.jm _).mp ((jm1 _).mp y).1).2 c hc rfl
 have mem2:∀j,(j∈js1\/(z.o c<b.n/\j=z.o c))↔j<b.n/\∀k,k<b.n->up z.o c t k≠j:=fun j=>by
  constructor
  .rintro(y | ⟨y,rfl⟩)
   .obtain⟨y1,y2⟩:=(jm1 j).mp y
    obtain⟨y3,y4⟩:=(S.jm j).mp y1
    refine⟨y3,fun k hk e=>?_⟩
    by_cases w:k=c
    .rw[w,Xm]at e;exact y2 e.symm
    .rw[Xd w]at e;exact y4 k hk e
   .refine⟨y,fun k hk e=>?_⟩
    by_cases w:k=c
    .rw[w,Xm]at e;exact B.out b.fx S.st hc e.symm
    .rw[Xd w]at e;exact w (S.st.ba.inj hk hc e)
  .rintro⟨y1,y2⟩
   rcases S.all y1 with⟨k,hk,e⟩ | y
   .by_cases w:k=c
    .rw[w]at e;exact .inr ⟨by rw[e];exact y1,e.symm⟩
    .exact absurd e (by have:=y2 k hk;rw[Xd w]at this;exact this)
   .refine .inl ((jm1 j).mpr ⟨y,fun w=>?_⟩)
    have:=y2 c hc
    rw[Xm]at this
    exact this w.symm
 refine Wb (fun σ' H7=>(∃u6 u7 u9:Option V,σ'=[some (.ref p),some (.int t),some (.ref x),some (.int c),some (.int side),some (.bl (decide (side=-1))),u6,u7,some (.int ((z.o c:Nat):Int)),u9])/\(∀c u,H6 c=some u->c≠a.inn->H7 c=some u)/\∃(js2:List Nat) (ad2:Nat->Addr),H7 a.inn=some (.dK (js2.map fun j=>((Sum.inl ((j:Nat):Int):Key),V.ref (ad2 j))))/\(∀j∈js2,LnA H7 (ad2 j) b.n (Ln b.n b.F (up z.o c t) (b.F j)) (Vo b.n b.F b.lo (up z.o c t) (one' z.one c side) (b.F j))/\((j∈js1/\ad2 j=ad1 j)\/H6 (ad2 j)=none))/\(js2.map ad2).Nodup/\js2.Nodup/\∀j,j∈js2↔j<b.n/\∀k,k<b.n->up z.o c t k≠j) ?_ fun REST=>?_
 rotate_left
 .refine⟨_,rfl,_,rfl,ob6.size T ⟨_,_,rfl,rfl,_,rfl,ite2 (fun e=>?_) (fun e=>?_)⟩⟩
  .have fn:z.o c<b.n:=by have:=kK e;lia
   refine Qck (t:=tIf _ _ _) (.int (-sgn (Ln b.n b.F z.o (b.F t) c))) H6 (fun Q' q'=>?_) ?_
   .refine⟨_,rfl,_,rfl,hL6.ix hc ⟨_,_,rfl,rfl,_,rfl,ite2 (fun y=>?_) (fun y=>?_)⟩⟩
    .have y':0<Ln b.n b.F z.o (b.F t) c:=kK y
     rw[show -sgn (Ln b.n b.F z.o (b.F t) c)=-1 from by unfold sgn;rw[if_neg Om]]at q'
     exact⟨_,rfl,q'⟩
    .have y':¬0<Ln b.n b.F z.o (b.F t) c:=fun h=>y (kW h)
     rw[show -sgn (Ln b.n b.F z.o (b.F t) c)=1 from by unfold sgn;rw[if_pos Om];rfl]at q'
     exact q'
   have sg1:-1<=-sgn (Ln b.n b.F z.o (b.F t) c)/\-sgn (Ln b.n b.F z.o (b.F t) c)<=1:=by unfold sgn;split<;>decide
   refine Qcl ?_
   refine⟨_,rfl,x,rfl,⟨_,Qh hL6⟩,fun N hN=>?_⟩
   refine Zi (xs:=List.range (b.n+1)) (val:=fun k=>V.int (LnF b.n (Ln b.n b.F z.o (b.F t)) (Vo b.n b.F b.lo z.o z.one (b.F t)-et b.lo t side*scl b.n b.F z.o) k)) V.int (fun k=>-sgn (Ln b.n b.F z.o (b.F t) c)*LnF b.n (Ln b.n b.F z.o (b.F t)) (Vo b.n b.F b.lo z.o z.one (b.F t)-et b.lo t side*scl b.n b.F z.o) k) rfl (Zn (Qh hL6)) (by rw[jV];lia) hN (fun k hk H7 s7 P h=>⟨_,rfl,_,rfl,_,_,rfl,rfl,cm1 sg1,h H7 fun _ _ z=>z⟩) fun H7 s7 h7=>?_
   have h7':IlA H7 N (b.n+1) (fun k=>-sgn (Ln b.n b.F z.o (b.F t) c)*LnF b.n (Ln b.n b.F z.o (b.F t)) (Vo b.n b.F b.lo z.o z.one (b.F t)-et b.lo t side*scl b.n b.F z.o) k):=by rw[xW]at h7;exact h7
   have ob7:=obK ob6 fun c u h _=>s7 c u h
   have sgn2:∀q:Int,-1<=- -sgn q/\- -sgn q<=1:=fun q=>by unfold sgn;split<;>decide
   refine⟨_,rfl,_,rfl,_,rfl,ob7.scale T ⟨_,_,rfl,rfl,cm1 (sgn2 _),_,rfl,_,rfl,h7'.setk Om fun o8 h8=>?_⟩⟩
   obtain⟨f1,f2,f3⟩:=Qoa S B hc hh fn
   have s8:=Xg (o:=o8) s7 hN
   have h8':IlA (upd H7 N o8) N (b.n+1) (LnF b.n (Ln b.n b.F (up z.o c t) (b.F (z.o c))) (-sgn (Ln b.n b.F z.o (b.F t) c)*(Vo b.n b.F b.lo z.o z.one (b.F t)-et b.lo t side*scl b.n b.F z.o))):=h8.congr fun k hk=>by
    show(if k=c then - -sgn (Ln b.n b.F z.o (b.F t) c)*scl b.n b.F z.o else -sgn (Ln b.n b.F z.o (b.F t) c)*LnF b.n (Ln b.n b.F z.o (b.F t)) (Vo b.n b.F b.lo z.o z.one (b.F t)-et b.lo t side*scl b.n b.F z.o) k)=_
    by_cases y1:k<b.n
    .rw[Jj y1,Jj y1]
     by_cases y2:k=c
     .rw[if_pos y2,y2,f1]
     .rw[if_neg y2,f2 k y1 y2]
    .have y3:k=b.n:=Om
     rw[y3,Ju,Ju,if_neg Om]
   generalize upd H7 N o8=H8 at s8 h8'
   have ob8:=obK ob6 fun c u h _=>s8 c u h
   dsimp only
   refine Qcm (fun σ' H9=>σ'=[some (.ref p),some (.int t),some (.ref x),some (.int c),some (.int side),some (.bl (decide (side=-1))),some (.ref N),u7,some (.int ((z.o c:Nat):Int)),some (.int (-sgn (Ln b.n b.F z.o (b.F t) c)))]/\Same H6 H9/\LnA H9 N b.n (Ln b.n b.F (up z.o c t) (b.F (z.o c))) (Vo b.n b.F b.lo (up z.o c t) (one' z.one c side) (b.F (z.o c)))) ?_ fun REST2=>?_
   rotate_left
   .refine⟨_,rfl,ob8.ones T ⟨_,rfl,ixR (s8 _ _ on6) hc ⟨_,rfl,ite2 (fun d=>?_) (fun d=>?_)⟩⟩⟩
    .refine⟨_,rfl,_,rfl,h8'.ixl ⟨_,rfl,_,rfl,(show LnA H8 x b.n _ _ from s8 _ _ hL6).ix hc ⟨_,rfl,_,_,rfl,rfl,h8'.setl fun o9 h9=>REST2 _ _ ⟨rfl,Xg s8 hN,h9.congr fun k hk=>?_⟩⟩⟩⟩
     rw[f3,if_pos d,Ju]
     show(if k=b.n then _ else _)=_
     by_cases y1:k<b.n
     .rw[if_neg Om,Jj y1,Jj y1]
     .have y3:k=b.n:=Om
      rw[if_pos y3,y3,Ju]
      rfl
    .refine REST2 _ _ ⟨rfl,s8,?_⟩
     rw[f3,if_neg d,wJ]
     exact h8'
   rintro σ' H9 ⟨rfl,s9,h9⟩
   have ob9:=obK ob6 fun c u h _=>s9 c u h
   have d9:=s9 _ _ d6
   have NI:N≠a.inn:=Yl h9 d9 (by intro y;cases y)
   have Nf:∀j∈js1,ad1 j≠N:=fun j hj y=>by
    have:=(l6 j hj).1
    unfold LnA IlA at this
    rw[y,hN]at this
    cases this
   refine⟨_,rfl,_,rfl,ob9.inner T ⟨_,rfl,a.inn,_,rfl,.inl ⟨_,Sum.inl ((z.o c:Nat):Int),d9,rfl,by rw[jQ];lia,rfl⟩,?_⟩⟩
   refine REST _ _ ⟨⟨_,_,_,rfl⟩,fun c u h n=>by rw[Qj n];exact s9 _ _ h,js1++[z.o c],up ad1 (z.o c) N,by rw[Qc,Qnx fo],fun j hj=>?_,?_,?_,fun j=>?_⟩
   .rcases zY.mp hj with y | y
    .have y2:j≠z.o c:=fun w=>fo (by rw[<-w];exact y)
     rw[Xd y2]
     exact⟨IlA.upd (s9 _ _ (l6 j y).1) (Yl (l6 j y).1 d6 (by intro y;cases y)),.inl ⟨y,rfl⟩⟩
    .rw[yW.mp y,Xm]
     exact⟨IlA.upd h9 NI,.inr hN⟩
   .rw[yK,kXa]
    refine⟨?_,kKc _ _,fun u hu w hw e=>?_⟩
    .rw[xZ fun j hj=>Xd (v:=ad1) (g:=N) (fun y=>fo (by rw[<-y];exact hj))]
     exact nd4
    .obtain⟨j,hj,rfl⟩:=kY.mp hu
     rw[yX,jYb,Xm]at hw
     rw[Xd (fun y=>fo (by rw[<-y];exact hj)),yW.mp hw]at e
     exact Nf j hj e
   .rw[kXa]
    exact⟨jn1,kKc _ _,fun u hu w hw e=>fo (by rw[<-yW.mp hw,<-e];exact hu)⟩
   .rw[<-mem2 j,zY,yW]
    exact⟨fun y=>y.imp_right fun y=>⟨fn,y⟩,fun y=>y.imp_right fun y=>y.2⟩
  .have fn:¬z.o c<b.n:=fun y=>e (kW Om)
   refine REST _ _ ⟨⟨_,_,_,rfl⟩,fun c u h _=>h,js1,ad1,d6,fun j hj=>⟨(l6 j hj).1,.inl ⟨hj,rfl⟩⟩,nd4,jn1,fun j=>?_⟩
   rw[<-mem2 j]
   exact⟨fun y=>.inl y,fun y=>y.elim id fun y=>absurd y.1 fn⟩
 rintro σ' H7 ⟨⟨u6',u7',u9,rfl⟩,k7,js2,ad2,d7,l7,nd7,jn2,jm2⟩
 have ob7:TbO C H7 p a b { z with wk:=W,pr:=D }:=obK ob6 k7
 have kk7:∀{c:Addr} {xs:List V},H6 c=some (.lst xs)->H7 c=some (.lst xs):=fun h=>k7 _ _ h (Yl h d6 (by intro y;cases y))
 have hL7:LnA H7 x b.n _ _:=kk7 hL6
 refine⟨_,rfl,_,rfl,hL7.ix hc ⟨_,rfl,_,rfl,ob7.setF (z2:={ z with o:=up z.o c t,wk:=W,pr:=D }) T (by unfold tbN;simp) Qsf (fun x=>by rw[show scl b.n b.F (up z.o c t)=if Ln b.n b.F z.o (b.F t) c<0 then -Ln b.n b.F z.o (b.F t) c else Ln b.n b.F z.o (b.F t) c from Qic hp0];exact tbL_sc x) fun o8 ob8=>?_⟩⟩
 obtain⟨dx7,fs7,p7,_⟩:=id ob7
 have k8:∀{c:Addr} {u:HO},H7 c=some u->(∀dx fs,u≠.ins C dx fs)->upd H7 p o8 c=some u:=fun h n=>by rw[Qj (fun y=>by rw[y,p7]at h;exact n _ _ (Option.some.inj h).symm)];exact h
 have kl8:∀{c:Addr} {xs:List V},H7 c=some (.lst xs)->upd H7 p o8 c=some (.lst xs):=fun h=>k8 h fun _ _ y=>by cases y
 have d8:=k8 d7 fun _ _ y=>by cases y
 have s08:∀c u,H0 c=some u->upd H7 p o8 c=some u:=fun c u h=>by
  have n1:c≠p:=fun y=>by rw[y,S.f0.1]at h;cases h
  have n2:c≠a.inn:=fun y=>by rw[y,S.f0.2.1]at h;cases h
  rw[Qj n1]
  have h1:=S.ba _ _ h
  refine k7 _ _ (k6 _ _ (k4 _ _ (s3 _ _ (k2 _ _ (kH c u h1 n1) n2)) n2) n1) n2
 generalize upd H7 p o8=H8 at ob8 k8 kl8 d8 s08
 refine⟨_,rfl,_,rfl,ob8.outer T ⟨_,rfl,a.ou,_,_,c,rfl,rfl,kl8 (kk7 ou6),rix hc,?_⟩⟩
 have ne1:a.on≠a.ou:=fun y=>by rw[kJ]at nn0;exact nn0.1 (by rw[<-y];exact yV ..)
 have on8:upd H8 a.ou (.lst (((List.range b.n).map fun k=>V.int ((z.o k:Nat):Int)).set c (.int ((t:Nat):Int)))) a.on=_:=(Qj ne1).trans (kl8 (kk7 on6))
 have ob9:TbO C (upd H8 a.ou (.lst (((List.range b.n).map fun k=>V.int ((z.o k:Nat):Int)).set c (.int ((t:Nat):Int))))) p a b { z with o:=up z.o c t,wk:=W,pr:=D }:=by
  obtain⟨dx',fs',h1,h2,h3⟩:=ob8
  exact⟨dx',fs',by rw[Qj (Yl h1 (kl8 (kk7 ou6)) (by intro y;cases y))];exact h1,h2,h3⟩
 refine⟨_,rfl,_,rfl,ob9.ones T ⟨_,rfl,a.on,_,_,c,rfl,rfl,on8,rix hc,?_⟩⟩
 have exH:∀y∈(a.ou::a.on::z.pr::z.p0::z.p1::z.js.map z.ad),∃xs,H y=some (.lst xs):=fun y hy=>by
  simp only[kQ]at hy
  rcases hy with e | e | e | e | e | e
  .rw[e];exact⟨_,S.ou⟩
  .rw[e];exact⟨_,S.on⟩
  .rw[e];exact⟨_,S.pr⟩
  .rw[e];exact⟨_,S.l0⟩
  .rw[e];exact⟨_,S.l1⟩
  .obtain⟨j,hj,e⟩:=kY.mp e;rw[<-e];exact⟨_,S.lns j hj⟩
 have fr3:∀w y,y∈(a.ou::a.on::z.pr::z.p0::z.p1::z.js.map z.ad)->H3 w=none->y≠w:=fun w y hy hw e=>by
  obtain⟨xs,h⟩:=exH y hy
  rw[<-e,lst3 h]at hw
  cases hw
 have n0:∀w,H3 w=none->H0 w=none:=fun w hw=>by
  cases e:H0 w with
  |none=>rfl
  |some u=>
   have m1:w≠p:=fun y=>by rw[y,S.f0.1]at e;cases e
   have m2:w≠a.inn:=fun y=>by rw[y,S.f0.2.1]at e;cases e
   rw[s3 _ _ (k2 _ _ (kH w u (S.ba _ _ e) m1) m2)]at hw
   cases hw
 have adc:∀j∈js2,(j∈z.js/\ad2 j=z.ad j)\/H3 (ad2 j)=none:=fun j hj=>by
  rcases(l7 j hj).2 with⟨y1,y2⟩ | y
  .rcases(l6 j y1).2 with w | w
   .exact .inl ⟨((jm1 j).mp y1).1,y2.trans w⟩
   .right;rw[y2];exact w
  .exact .inr (n4 (n6 y))
 have gc0:g0=z.p0\/H3 g0=none:=hor0.imp_right n4
 have gc1:g1=z.p1\/H3 g1=none:=hor1.imp_right n4
 have Dc:=n4 hD
 rw[kJ,kJ,kJ,kJ,kJ]at nn0
 obtain⟨m1,m2,m3,m4,m5,m6⟩:=nn0
 simp only[kQ,not_or]at m1 m2 m3 m4
 have mo:a.ou∈(a.ou::a.on::z.pr::z.p0::z.p1::z.js.map z.ad):=by simp
 have mn:a.on∈(a.ou::a.on::z.pr::z.p0::z.p1::z.js.map z.ad):=by simp
 have mp0:z.p0∈(a.ou::a.on::z.pr::z.p0::z.p1::z.js.map z.ad):=by simp
 have mp1:z.p1∈(a.ou::a.on::z.pr::z.p0::z.p1::z.js.map z.ad):=by simp
 have oD:=fr3 D _ mo Dc
 have nD:=fr3 D _ mn Dc
 have og0:a.ou≠g0:=gc0.elim (fun y=>by rw[y];exact m1.2.2.1) (fr3 _ _ mo)
 have ng0:a.on≠g0:=gc0.elim (fun y=>by rw[y];exact m2.2.1) (fr3 _ _ mn)
 have og1:a.ou≠g1:=gc1.elim (fun y=>by rw[y];exact m1.2.2.2.1) (fr3 _ _ mo)
 have ng1:a.on≠g1:=gc1.elim (fun y=>by rw[y];exact m2.2.2.1) (fr3 _ _ mn)
 have oad:∀j∈js2,a.ou≠ad2 j:=fun j hj=>(adc j hj).elim (fun y=>by rw[y.2];exact fun w=>m1.2.2.2.2 (by rw[w];exact kY.mpr ⟨j,y.1,rfl⟩)) (fr3 _ _ mo)
 have nad:∀j∈js2,a.on≠ad2 j:=fun j hj=>(adc j hj).elim (fun y=>by rw[y.2];exact fun w=>m2.2.2.2 (by rw[w];exact kY.mpr ⟨j,y.1,rfl⟩)) (fr3 _ _ mn)
 have Dad:∀j∈js2,D≠ad2 j:=fun j hj e=>by
  rcases(l7 j hj).2 with⟨y1,y2⟩ | y
  .have:=(l4' j y1).1
   unfold LnA IlA at this
   rw[<-y2,<-e,hD]at this
   cases this
  .rw[<-e,D6]at y;cases y
 have gad:∀(g pg:Addr),(∃xs,H6 g=some (.lst xs))->(g=pg\/H4 g=none)->(∃xs,H pg=some (.lst xs))->(∀j∈z.js,pg≠z.ad j)->∀j∈js2,g≠ad2 j:=fun g pg ⟨xs,h⟩ hor ⟨xs',hpg⟩ hn j hj e=>by
  rcases(l7 j hj).2 with⟨y1,y2⟩ | y
  .rcases hor with w | w
   .rcases(l6 j y1).2 with v | v
    .exact hn j ((jm1 j).mp y1).1 (by rw[<-w,e,y2,v])
    .rw[<-y2,<-e,w,lst3 hpg]at v;cases v
   .have:=(l4' j y1).1
    unfold LnA IlA at this
    rw[<-y2,<-e,w]at this
    cases this
  .rw[<-e,h]at y;cases y
 have g0ad:=gad g0 z.p0 ⟨_,hL06⟩ hor0 ⟨_,S.l0⟩ fun j hj w=>m4.2 (by rw[w];exact kY.mpr ⟨j,hj,rfl⟩)
 have g1ad:=gad g1 z.p1 ⟨_,hL16⟩ hor1 ⟨_,S.l1⟩ fun j hj w=>m5 (by rw[w];exact kY.mpr ⟨j,hj,rfl⟩)
 have notm:∀{y:Addr},(∀j∈js2,y≠ad2 j)->y∉js2.map ad2:=fun h w=>by
  obtain⟨j,hj,e⟩:=kY.mp w
  exact h j hj e.symm
 have e10:∀{y:Addr},a.ou≠y->a.on≠y->upd (upd H8 a.ou (.lst (((List.range b.n).map fun k=>V.int ((z.o k:Nat):Int)).set c (.int ((t:Nat):Int))))) a.on (.lst (((List.range b.n).map fun k=>V.bl (z.one k)).set c (.bl (decide (side=-1))))) y=H8 y:=fun h1 h2=>by rw[Qj (Ne.symm h2),Qj (Ne.symm h1)]
 have l10:∀{y:Addr} {xs:List V},a.ou≠y->a.on≠y->H6 y=some (.lst xs)->upd (upd H8 a.ou (.lst (((List.range b.n).map fun k=>V.int ((z.o k:Nat):Int)).set c (.int ((t:Nat):Int))))) a.on (.lst (((List.range b.n).map fun k=>V.bl (z.one k)).set c (.bl (decide (side=-1))))) y=some (.lst xs):=fun h1 h2 h=>(e10 h1 h2).trans (kl8 (kk7 h))
 refine q ⟨up z.o c t,one' z.one c side,js2,ad2,D,g0,g1,W⟩ _ ⟨?_,S.ok,S.ro,fun w u h=>?_,?_,?_,?_,fun j hj=>?_,l10 oD nD D6,l10 og0 ng0 hL06,l10 og1 ng1 hL16,?_,⟨S.f0.1,S.f0.2.1,fun w hw=>?_⟩,jn2,jm2,S.st.up B hc hh⟩ rfl rfl
 .obtain⟨dx',fs',h1,h2,h3⟩:=ob9
  exact⟨dx',fs',by rw[Qj (Yl h1 on8 (by intro y;cases y))];exact h1,h2,h3⟩
 .rw[e10 (fun y=>by rw[<-y,S.f0.2.2 _ mo]at h;cases h) (fun y=>by rw[<-y,S.f0.2.2 _ mn]at h;cases h)]
  exact s08 _ _ h
 .rw[Qj (Ne.symm ne1),Qc,rset]
  congr 2
  refine xZ fun d _=>?_
  show(if d=c then V.int ((t:Nat):Int)else V.int ((z.o d:Nat):Int))=V.int ((up z.o c t d:Nat):Int)
  unfold up
  by_cases y:d=c
  .rw[if_pos y,if_pos y]
  .rw[if_neg y,if_neg y]
 .rw[Qc,rset]
  congr 2
  refine xZ fun d _=>?_
  show(if d=c then V.bl (decide (side=-1))else V.bl (z.one d))=V.bl (one' z.one c side d)
  unfold one' up
  by_cases y:d=c
  .rw[if_pos y,if_pos y]
  .rw[if_neg y,if_neg y]
 .rw[e10 (fun y=>by have:=S.ou;rw[y,S.inn]at this;cases this) (fun y=>by have:=S.on;rw[y,S.inn]at this;cases this)]
  exact d8
 .exact(e10 (oad j hj) (nad j hj)).trans (kl8 (l7 j hj).1)
 .simp only[kJ,kQ,not_or]
  exact⟨⟨Ne.symm ne1,oD,og0,og1,notm oad⟩,⟨nD,ng0,ng1,notm nad⟩,⟨Ne.symm g0D,Ne.symm g1D,notm Dad⟩,⟨g01,notm g0ad⟩,notm g1ad,nd7⟩
 .simp only[kQ]at hw
  rcases hw with e | e | e | e | e | e
  .rw[e];exact S.f0.2.2 _ mo
  .rw[e];exact S.f0.2.2 _ mn
  .rw[e];exact n0 _ Dc
  .rw[e];exact gc0.elim (fun y=>by rw[y];exact S.f0.2.2 _ mp0) (n0 _)
  .rw[e];exact gc1.elim (fun y=>by rw[y];exact S.f0.2.2 _ mp1) (n0 _)
  .obtain⟨j,hj,e⟩:=kY.mp e
   rw[<-e]
   rcases adc j hj with y | y
   .rw[y.2]
    refine S.f0.2.2 _ ?_
    simp only[kQ]
    exact .inr (.inr (.inr (.inr (.inr (kY.mpr ⟨j,y.1,rfl⟩)))))
   .exact n0 _ y
theorem Qli{xs:List Int}:xs.map V.int=(List.range xs.length).map fun k=>V.int (xs.getD k 0):=by
 refine kYe (by simp) fun i h1 h2=>?_
 rw[jJf,jJf,kXe,jZ,gE]
 rfl
abbrev sPts:Stmt:=top 13
inductive spPts(K:Fg)(vs:List V)(H:Hp)(Q:VK)(E:XK):Prop|mk(t:Addr)(r:List Int×Int)(_:vs=[.ref t])(_:RowAt K H t r)(_:r.1.length<=1000)(_:∀(l:Addr) (ts:List V) (H':Hp),Same H H'->H l=none->H' l=some (.lst ts)->PtA K H' ts (prt r)->Q (.ref l) H'):spPts K vs H Q E
theorem scPts:FnScope ["row"] ["row"] (Qg sPts):=⟨rfl,rfl,rfl,Dk,rfl,Dk,Dk⟩
theorem okPts (F:Fn K mg "parts_of" sPts)(M:Mg mg):Cal P w K mg base 1 "parts_of" ["row"] (spPts K):=by
 refine Xt F scPts (fun _ _ _ _ _ _=>bind1 (fun _=>rfl)) (fun vs H Q E h=>?_) (fun f cdv A outer s H vs Q E hr h=>?_)
 .obtain⟨t,r,rfl,_⟩:=h
  rfl
 obtain⟨t,r,rfl,⟨c,h1,h2⟩,hl,q⟩:=h
 refine⟨_,(Qi (Qs (Zm ["choice","number"] [none,none] rfl (Qcb false rfl M.enumerate_ (Qa (Qo Qu (pv 0) Qf (fun _ _=>rfl)) Qe)) (fun _ _ _=>(Yu (K:=K) (i:=0) (j:=1) rfl rfl (show(["choice","number"]:List Str).Nodup by decide +kernel) rfl rfl rfl rfl)) (fun _ _ _=>(Qdj (Qr Qha (pv 1) Qf (Qt _)))) (fun _ _ _=>(Xk (Qa (pv 0) (Qa (pv 1) Qe))))))),?_⟩
 have hz:(1000:Nat)<sizeLine:=Dc
 rw[Qli]at h2
 refine⟨_,rfl,t,_,_,_,rfl,rfl,h1,at0,c,rfl,⟨_,h2⟩,fun D hD=>?_⟩
 refine Qge (K:=K) (xs:=List.range r.1.length) (v1:=fun k=>.int ((k:Nat):Int)) (v2:=fun k=>.int (r.1.getD k 0)) (Pr2 K D) (fun k=>(k,r.1.getD k 0)) (fun k=>!decide (r.1.getD k 0=0)) rfl (Qhn (m:=false) fun H1 s=>s.tup h2) (by rw[jV];lia) hD (fun _ s h=>h.same s) (fun h=>h.upd) (fun k hk H1 s1 P h=>?_) (fun k hk c H1 s1 hD1 P h=>?_) fun H1 ys s1 h1 hp=>?_
 .refine⟨_,rfl,rfl,_,rfl,?_⟩
  rw[show decide (V.int (r.1.getD k 0)=V.int 0)=decide (r.1.getD k 0=0)from decide_eq_decide.mpr ⟨fun z=>V.int.inj z,fun z=>by rw[z]⟩]
  exact h H1 fun _ _ z=>z
 .refine⟨_,rfl,_,rfl,by show 2<=sizeLine;decide,fun t ht=>?_⟩
  exact h _ _ (Qd ht _) ⟨t,fun y=>hD1 (by rw[<-y];exact ht),rfl,Qy Qc⟩
 .exact q D ys H1 s1 hD h1 (Qco hp)
end
def ObF(C:Addr)(H:Hp)(p:Addr)(lk:Str->Option V):Prop:=∃dx fs,H p=some (.ins C dx fs)/\fs.length<100/\∀x,fs.lookup x=lk x
def lkU(lk:Str->Option V)(f:Str)(v:V):Str->Option V:=fun x=>if x=f then some v else lk x
section
variable{K:Fg}{mg:Str->Option Value}{C:Addr}{H:Hp}{p:Addr}{lk:Str->Option V}
theorem ObF.fld{f:Str}{v:V}{Q:V->Prop}(S:ObF C H p lk)(T:TbTxt K mg C)(hf:f∈tbN)(hv:lk f=some v)(q:Q v):∃a C dx fs v',V.ref p=.ref a/\H a=some (.ins C dx fs)/\Cls K C/\NoAttr K C f/\fs.lookup f=some v'/\Q v':=by
 obtain⟨dx,fs,h1,h2,h3⟩:=S
 exact⟨p,C,dx,fs,v,rfl,h1,T.cl,T.na f hf,(h3 f).trans hv,q⟩
theorem ObF.mt{nm:Str}{q:Prop}(S:ObF C H p lk)(hn:lk nm=none)(h:q):∃a dx fs,V.ref p=.ref a/\H a=some (.ins C dx fs)/\fs.lookup nm=none/\q:=by
 obtain⟨dx,fs,h1,h2,h3⟩:=S
 exact⟨p,dx,fs,rfl,h1,(h3 nm).trans hn,h⟩
theorem ObF.same{H':Hp}(S:ObF C H p lk)(s:∀o,H p=some o->H' p=some o):ObF C H' p lk:=by
 obtain⟨dx,fs,h1,h2,h3⟩:=S
 exact⟨dx,fs,s _ h1,h2,h3⟩
end
structure Ini(K:Fg)(H:Hp)(pa le we:Addr)(rs:List (List Int×Int)):Prop where
 hpa:∃us,H pa=some (.lst us)/\Paired (fun v r=>∃l ts,v=V.ref l/\H l=some (.lst ts)/\l≠pa/\l≠le/\l≠we/\PtA K H ts (prt r)) us rs
 hle:H le=some (.lst (rs.map fun r=>V.int r.2))
 hwe:∃ws:List Int,H we=some (.lst (ws.map V.int))/\ws.length=rs.length/\∀w∈ws,1<=w/\w<=Cx
 ds:pa≠le/\pa≠we/\le≠we
theorem PtA.updL{K:Fg}{H:Hp}{g:Addr}{xs zs:List V}{ts:List V}{ps:List (Nat×Int)}(hg:H g=some (.lst xs))(h:PtA K H ts ps):PtA K (upd H g (.lst zs)) ts ps:=Paired.mapP h fun _ _ ⟨t,e,y⟩=>⟨t,e,Yx hg y⟩
theorem Qob{r:List Int×Int}(h:∀x∈r.1,In18 x)(h7:r.1.length<=7):∀y∈r.1.map ab,0<=y/\y<=Cx:=fun y hy=>by
 obtain⟨x,hx,e⟩:=kY.mp hy
 have h1:=h x hx
 have h2:B18<=Cx:=Dk
 unfold In18 at h1
 rw[<-e]
 unfold ab
 split<;>lia
abbrev sAdd:Stmt:=inClass (top 18) 1
inductive spAdd(K:Fg)(C:Addr)(vs:List V)(H:Hp)(Q:VK)(E:XK):Prop|mk(p:Addr)(lk:Str->Option V)(pa le we t:Addr)(rs:List (List Int×Int))(r:List Int×Int)(_:vs=[.ref p,.ref t])(_:ObF C H p lk)(_:lk "parts"=some (.ref pa))(_:lk "leasts"=some (.ref le))(_:lk "weights"=some (.ref we))(_:Ini K H pa le we rs)(_:rs.length<=7)(_:RowAt K H t r)(_:r.1.length<=7)(_:(∀x∈r.1,In18 x))(_:∀H',Ini K H' pa le we (rs++[r])->(∀c o,H c=some o->c≠pa->c≠le->c≠we->H' c=some o)->Q .non H'):spAdd K C vs H Q E
section
variable{P:Program}{w:World}{K:Fg}{mg:Str->Option Value}{base:Heap}
theorem scAdd:FnScope ["self","row"] ["self","row"] (Qg sAdd):=⟨rfl,rfl,rfl,Dk,rfl,Dk,Dk⟩
theorem okAdd{f C:Addr}{fd:FuncData}(F:Fun K "add_row" "Tableau.add_row" sAdd f fd)(M:Mg mg)(T:TbTxt K mg C)(c_parts_of:Cal P w K mg base 1 "parts_of" ["row"] (spPts K)):FnOk P w K mg base CX0 2 f fd ["self","row"] (spAdd K C):=by
 refine F.ok scAdd (fun vs H Q E h=>?_) (fun cdv A outer s H vs Q E hr h=>?_)
 .obtain⟨p,lk,pa,le,we,t,rs,r,rfl,_⟩:=h
  rfl
 obtain⟨p,lk,pa,le,we,t,rs,r,rfl,S,f1,f2,f3,I,r7,hR,l7,hI,q⟩:=h
 refine⟨_,(Qb (Ys (Vw PySem.F.plainAttrs_list PySem.F.slot_list_append PySem.F.type_list_append Yp (Qq (pv 0) rfl) (Qa (Xh c_parts_of (hr.mono Dc) (Qa (pv 1) Qe)) Qe)))
  (Qb (Ys (Vw PySem.F.plainAttrs_list PySem.F.slot_list_append PySem.F.type_list_append Yp (Qq (pv 0) rfl) (Qa (Qo Qu (pv 1) Qf (fun _ _=>rfl)) Qe)))
  (Qi (Ys (Vw PySem.F.plainAttrs_list PySem.F.slot_list_append PySem.F.type_list_append Yp (Qq (pv 0) rfl) (Qa (Ql (Kw rfl) rfl M.max Qdl (Qa Qf (Qa (Ql (Zy rfl) rfl M.sum Wu (Qa (Zm ["number"] [none] rfl (Ki (Qo Qu (pv 1) Qf (fun _ _=>rfl))) (fun _ _ _=>(Qx (i:=0) (show(["number"]:List Str).Nodup by decide +kernel) rfl (Or.inl rfl) (Or.inr rfl))) (fun _ _ _=>Xy) (fun _ _ _=>(Ql Zl rfl M.abs Kj (Qa (pv 0) Qe)))) Qe)) Qe))) Qe)))))),?_⟩
 have hz:(1000:Nat)<sizeLine:=Dc
 obtain⟨⟨us,u1,u2⟩,i2,⟨ws,w1,w2,w3⟩,d1,d2,d3⟩:=I
 have lu:=Paired.length u2
 obtain⟨dx,fs,p1,_⟩:=id S
 have mem:∀x∈(["parts","leasts","weights"]:List Str),x∈tbN:=by unfold tbN;simp
 refine⟨_,rfl,S.fld T (mem _ (by simp)) f1 ⟨.inl ⟨rfl,_,Qh u1⟩,_,rfl,t,r,rfl,hR,Om,fun l ts H1 s1 hl h1 hp=>?_⟩⟩
 have lpa:l≠pa:=fun y=>by rw[y,u1]at hl;cases hl
 have lle:l≠le:=fun y=>by rw[y,i2]at hl;cases hl
 have lwe:l≠we:=fun y=>by rw[y,w1]at hl;cases hl
 refine⟨pa,us,_,rfl,rfl,s1 _ _ u1,Om,?_⟩
 have S2:ObF C (upd H1 pa (.lst (us++[.ref l]))) p lk:=(S.same (H':=H1) fun o h=>s1 _ _ h).same fun o h=>by
  rw[Qj (Yl (s1 _ _ p1) (s1 _ _ u1) (by intro y;cases y))];exact h
 have hR2:RowAt K (upd H1 pa (.lst (us++[.ref l]))) t r:=RowAt.upd (s1 _ _ u1) (hR.same s1)
 have le2:upd H1 pa (.lst (us++[.ref l])) le=some (.lst (rs.map fun r=>V.int r.2)):=by rw[Qj (Ne.symm d1)];exact s1 _ _ i2
 have we2:upd H1 pa (.lst (us++[.ref l])) we=some (.lst (ws.map V.int)):=by rw[Qj (Ne.symm d2)];exact s1 _ _ w1
 have pa2:upd H1 pa (.lst (us++[.ref l])) pa=some (.lst (us++[.ref l])):=Qc
 have k2:∀c o,H1 c=some o->c≠pa->upd H1 pa (.lst (us++[.ref l])) c=some o:=fun c o h n=>by rw[Qj n];exact h
 have t2:∀{ts ps},PtA K H1 ts ps->PtA K (upd H1 pa (.lst (us++[.ref l]))) ts ps:=fun h=>h.updL (s1 _ _ u1)
 generalize upd H1 pa (.lst (us++[.ref l]))=H2 at S2 hR2 le2 we2 pa2 k2 t2
 obtain⟨c,c1,c2⟩:=id hR2
 refine⟨_,rfl,S2.fld T (mem _ (by simp)) f2 ⟨.inl ⟨rfl,_,Qh le2⟩,_,rfl,t,_,_,_,rfl,rfl,c1,at1,le,_,_,rfl,rfl,le2,by rw[jQ];lia,?_⟩⟩
 have S3:ObF C (upd H2 le (.lst ((rs.map fun r=>V.int r.2)++[.int r.2]))) p lk:=S2.same fun o h=>by
  obtain⟨dx',fs',p2,_⟩:=S2
  rw[Qj (Yl p2 le2 (by intro y;cases y))];exact h
 have hR3:RowAt K (upd H2 le (.lst ((rs.map fun r=>V.int r.2)++[.int r.2]))) t r:=RowAt.upd le2 hR2
 have we3:upd H2 le (.lst ((rs.map fun r=>V.int r.2)++[.int r.2])) we=some (.lst (ws.map V.int)):=by rw[Qj (Ne.symm d3)];exact we2
 have pa3:upd H2 le (.lst ((rs.map fun r=>V.int r.2)++[.int r.2])) pa=some (.lst (us++[.ref l])):=by rw[Qj d1];exact pa2
 have le3:upd H2 le (.lst ((rs.map fun r=>V.int r.2)++[.int r.2])) le=some (.lst ((rs++[r]).map fun r=>V.int r.2)):=by rw[Qc,yK];rfl
 have k3:∀c o,H2 c=some o->c≠le->upd H2 le (.lst ((rs.map fun r=>V.int r.2)++[.int r.2])) c=some o:=fun c o h n=>by rw[Qj n];exact h
 have t3:∀{ts ps},PtA K H2 ts ps->PtA K (upd H2 le (.lst ((rs.map fun r=>V.int r.2)++[.int r.2]))) ts ps:=fun h=>h.updL le2
 generalize upd H2 le (.lst ((rs.map fun r=>V.int r.2)++[.int r.2]))=H3 at S3 hR3 we3 pa3 le3 k3 t3
 obtain⟨c',c1',c2'⟩:=id hR3
 refine⟨_,rfl,S3.fld T (mem _ (by simp)) f3 ⟨.inl ⟨rfl,_,Qh we3⟩,_,rfl,t,_,_,_,rfl,rfl,c1',at0,c',rfl,⟨_,c2'⟩,fun D hD=>?_⟩⟩
 refine Zi (xs:=r.1) (val:=V.int) V.int ab rfl (Ke c2') Om hD (fun k hk H4 s4 P h=>⟨_,rfl,_,rfl,h H4 fun _ _ z=>z⟩) fun H4 s4 h4=>?_
 refine⟨D,_,rfl,Qh h4,_,_,rfl,we,_,_,rfl,rfl,s4 _ _ we3,by rw[jQ];lia,?_⟩
 have hs:=Qku (Qob hI l7)
 rw[jQ]at hs
 have hm:((r.1.length:Nat):Int)*Cx<=7*Cx:=jXd Om (by have:=cxy;lia)
 have hb:(r.1.map ab).sum<=7*B18:=by
  have:∀xs:List Int,(∀x∈xs,In18 x)->(xs.map ab).sum<=((xs.length:Nat):Int)*B18:=by
   intro xs
   induction xs with
   |nil=>intro _;show(0:Int)<=0*B18;lia
   |cons x xs ih=>
    intro h
    have h1:=ih fun y hy=>h y (yZ _ hy)
    have h2:=h x (yV ..)
    rw[yX,jJc,xQ,kKe,Int.add_mul]
    unfold In18 at h2
    have h3:ab x<=B18:=by unfold ab;split<;>lia
    show _<=_+1*B18
    omega
  have h1:=this r.1 hI
  have h2:((r.1.length:Nat):Int)*B18<=7*B18:=jXd Om Dc
  omega
 have h8:7*B18<=Cx:=Dk
 have cx:=cxy
 have we4:=s4 _ _ we3
 have fin:∀{c o},H c=some o->c≠pa->c≠le->c≠we->upd H4 we (.lst (ws.map V.int++[.int (if (r.1.map ab).sum > 1 then(r.1.map ab).sum else 1)])) c=some o:=fun{c o} h n1 n2 n3=>by
  rw[Qj n3];exact s4 _ _ (k3 _ _ (k2 _ _ (s1 _ _ h) n1) n2)
 refine q _ ⟨⟨us++[.ref l],by rw[Qj d2];exact s4 _ _ pa3,Paired.snoc (Paired.mapP u2 fun v r' ⟨l',ts',e,z1,z2,z3,z4,z5⟩=>⟨l',ts',e,fin z1 z2 z3 z4,z2,z3,z4,(t3 (t2 (z5.same s1))).same s4 |>.updL we4⟩) ⟨l,ts,rfl,by rw[Qj lwe];exact s4 _ _ (k3 _ _ (k2 _ _ h1 lpa) lle),lpa,lle,lwe,((t3 (t2 hp)).same s4).updL we4⟩⟩,by rw[Qj d3];exact s4 _ _ le3,⟨ws++[if (r.1.map ab).sum > 1 then(r.1.map ab).sum else 1],by rw[Qc,yK];rfl,by rw[kZ,kZ,w2];rfl,fun w hw=>?_⟩,d1,d2,d3⟩ fun c o h n1 n2 n3=>fin h n1 n2 n3
 rcases zY.mp hw with y | y
 .exact w3 w y
 .rw[yW.mp y]
  split<;>lia
abbrev sFlT:Stmt:=inClass (top 18) 5
inductive spFlT(K:Fg)(C:Addr)(vs:List V)(H:Hp)(Q:VK)(E:XK):Prop|mk(p:Addr)(lk:Str->Option V)(on y:Addr)(n:Nat)(one:Nat->Bool)(g:Nat->Int)(_:vs=[.ref p,.ref y])(_:ObF C H p lk)(_:lk "ones"=some (.ref on))(_:n<=7)(_:H on=some (.lst ((List.range n).map fun k=>V.bl (one k))))(_:SqT K H y ((List.range n).map fun k=>V.int (g k)))(_:∀(x:Addr) (H':Hp),Same H H'->H x=none->LnA H' x n g (Su n fun k=>if one k=true then g k else 0)->Q (.ref x) H'):spFlT K C vs H Q E
theorem Qgi{g:Nat->Int}{one:Nat->Bool}(n:Nat):(((List.range n).filter one).map g).sum=Su n fun k=>if one k=true then g k else 0:=by
 rw[<-Qcn]
 generalize List.range n=xs
 induction xs with
 |nil=>rfl
 |cons x xs ih=>
  rw[yX,jJc,<-ih]
  by_cases c:one x=true
  .rw[kYa c,if_pos c,yX,jJc]
  .rw[kYb c,if_neg c,jZe]
theorem scFlT:FnScope ["self","numbers"] ["self","numbers"] (Qg sFlT):=⟨rfl,rfl,rfl,Dk,rfl,Dk,Dk⟩
theorem okFlT{f C:Addr}{fd:FuncData}(F:Fun K "first_line" "Tableau.first_line" sFlT f fd)(M:Mg mg)(T:TbTxt K mg C):FnOk P w K mg base CX0 1 f fd ["self","numbers"] (spFlT K C):=by
 refine F.ok scFlT (fun vs H Q E h=>?_) (fun cdv A outer s H vs Q E hr h=>?_)
 .obtain⟨p,lk,on,y,n,one,g,rfl,_⟩:=h
  rfl
 obtain⟨p,lk,on,y,n,one,g,rfl,S,f1,n7,hon,hy,q⟩:=h
 refine⟨_,(Qi (Qs (Qn Qav (Qz Xv rfl M.list_ Yv (Qa (pv 1) Qe)) (Xz (Qa (Ql (Zy rfl) rfl M.sum Wu (Qa (Zm ["number","one"] [none,none] rfl (Qax false true rfl M.zip_ (Qa (pv 1) (Qa (Qq (pv 0) rfl) Qe))) (fun _ _ _=>(Yu (K:=K) (i:=0) (j:=1) rfl rfl (show(["number","one"]:List Str).Nodup by decide +kernel) rfl rfl rfl rfl)) (fun _ _ _=>(Qdj (Xj (pv 1)))) (fun _ _ _=>(pv 0))) Qe)) Qe))))),?_⟩
 have hz:(1000:Nat)<sizeLine:=Dc
 have mem:("ones":Str)∈tbN:=by unfold tbN;simp
 refine⟨_,rfl,y,_,rfl,.inr hy,fun l hl=>?_⟩
 have s1:=Qd hl (.lst ((List.range n).map fun k=>V.int (g k)))
 have S1:=S.same (H':=upd H l (.lst ((List.range n).map fun k=>V.int (g k)))) fun o h=>s1 _ _ h
 have hy1:=s1.tup hy
 have hon1:=s1 _ _ hon
 have l1:upd H l (.lst ((List.range n).map fun k=>V.int (g k))) l=some (.lst ((List.range n).map fun k=>V.int (g k))):=Qc
 generalize upd H l (.lst ((List.range n).map fun k=>V.int (g k)))=H1 at s1 S1 hy1 hon1 l1
 refine⟨_,rfl,_,rfl,S1.fld T mem f1 ⟨y,on,rfl,⟨_,hy1⟩,⟨_,Qh hon1⟩,fun D hD=>?_⟩⟩
 refine Qgf (K:=K) (xs:=List.range n) (v1:=fun k=>V.int (g k)) (v2:=fun k=>V.bl (one k)) V.int g one rfl (Vb (m1:=false) (m2:=true) (fun H2 s=>s.tup hy1) (fun H2 s=>s.seq (Qh hon1))) (by rw[jV];lia) hD (fun k hk H2 s2 P h=>⟨_,rfl,_,rfl,h H2 fun _ _ z=>z⟩) (fun k hk c H2 s2 P h=>⟨_,rfl,h H2 fun _ _ z=>z⟩) fun H2 s2 h2=>?_
 refine⟨D,_,rfl,Qh h2,by show 1<=sizeLine;decide,fun e he=>?_⟩
 have s3:=s2.trans (Qd he (.lst [.int (((List.range n).filter one).map g).sum]))
 refine⟨l,e,_,_,rfl,rfl,s3 _ _ l1,Qc,by rw[jQ,jV];show n+1<=sizeLine;lia,fun x hx=>?_⟩
 refine q x _ ((s1.trans s3).trans (Qd hx _)) ?_ ?_
 .cases e0:H x with
  |none=>rfl
  |some u=>rw[(s1.trans s3) _ _ e0]at hx;cases hx
 .unfold LnA IlA
  rw[Qc,jJb,yK]
  congr 2
  have e1:((List.range n).map fun k=>V.int (g k))=(List.range n).map fun k=>V.int (LnF n g (Su n fun k=>if one k=true then g k else 0) k):=xZ fun k hk=>by rw[Jj (xX.mp hk)]
  rw[e1]
  congr 1
  rw[yX,jYb,Ju,Qgi]
abbrev sFlL:Stmt:=inClass (top 18) 5
inductive spFlL(K:Fg)(C:Addr)(vs:List V)(H:Hp)(Q:VK)(E:XK):Prop|mk(p:Addr)(lk:Str->Option V)(on y:Addr)(n:Nat)(one:Nat->Bool)(g:Nat->Int)(_:vs=[.ref p,.ref y])(_:ObF C H p lk)(_:lk "ones"=some (.ref on))(_:n<=7)(_:H on=some (.lst ((List.range n).map fun k=>V.bl (one k))))(_:SqL K H y ((List.range n).map fun k=>V.int (g k)))(_:∀(x:Addr) (H':Hp),Same H H'->H x=none->LnA H' x n g (Su n fun k=>if one k=true then g k else 0)->Q (.ref x) H'):spFlL K C vs H Q E
theorem scFlL:FnScope ["self","numbers"] ["self","numbers"] (Qg sFlL):=⟨rfl,rfl,rfl,Dk,rfl,Dk,Dk⟩
theorem okFlL{f C:Addr}{fd:FuncData}(F:Fun K "first_line" "Tableau.first_line" sFlL f fd)(M:Mg mg)(T:TbTxt K mg C):FnOk P w K mg base CX0 1 f fd ["self","numbers"] (spFlL K C):=by
 refine F.ok scFlL (fun vs H Q E h=>?_) (fun cdv A outer s H vs Q E hr h=>?_)
 .obtain⟨p,lk,on,y,n,one,g,rfl,_⟩:=h
  rfl
 obtain⟨p,lk,on,y,n,one,g,rfl,S,f1,n7,hon,hy,q⟩:=h
 refine⟨_,(Qi (Qs (Qn Qav (Qz Xv rfl M.list_ Yv (Qa (pv 1) Qe)) (Xz (Qa (Ql (Zy rfl) rfl M.sum Wu (Qa (Zm ["number","one"] [none,none] rfl (Qax true true rfl M.zip_ (Qa (pv 1) (Qa (Qq (pv 0) rfl) Qe))) (fun _ _ _=>(Yu (K:=K) (i:=0) (j:=1) rfl rfl (show(["number","one"]:List Str).Nodup by decide +kernel) rfl rfl rfl rfl)) (fun _ _ _=>(Qdj (Xj (pv 1)))) (fun _ _ _=>(pv 0))) Qe)) Qe))))),?_⟩
 have hz:(1000:Nat)<sizeLine:=Dc
 have mem:("ones":Str)∈tbN:=by unfold tbN;simp
 refine⟨_,rfl,y,_,rfl,.inl hy,fun l hl=>?_⟩
 have s1:=Qd hl (.lst ((List.range n).map fun k=>V.int (g k)))
 have S1:=S.same (H':=upd H l (.lst ((List.range n).map fun k=>V.int (g k)))) fun o h=>s1 _ _ h
 have hy1:=s1.seq hy
 have hon1:=s1 _ _ hon
 have l1:upd H l (.lst ((List.range n).map fun k=>V.int (g k))) l=some (.lst ((List.range n).map fun k=>V.int (g k))):=Qc
 generalize upd H l (.lst ((List.range n).map fun k=>V.int (g k)))=H1 at s1 S1 hy1 hon1 l1
 refine⟨_,rfl,_,rfl,S1.fld T mem f1 ⟨y,on,rfl,⟨_,hy1⟩,⟨_,Qh hon1⟩,fun D hD=>?_⟩⟩
 refine Qgf (K:=K) (xs:=List.range n) (v1:=fun k=>V.int (g k)) (v2:=fun k=>V.bl (one k)) V.int g one rfl (Vb (m1:=true) (m2:=true) (fun H2 s=>s.seq hy1) (fun H2 s=>s.seq (Qh hon1))) (by rw[jV];lia) hD (fun k hk H2 s2 P h=>⟨_,rfl,_,rfl,h H2 fun _ _ z=>z⟩) (fun k hk c H2 s2 P h=>⟨_,rfl,h H2 fun _ _ z=>z⟩) fun H2 s2 h2=>?_
 refine⟨D,_,rfl,Qh h2,by show 1<=sizeLine;decide,fun e he=>?_⟩
 have s3:=s2.trans (Qd he (.lst [.int (((List.range n).filter one).map g).sum]))
 refine⟨l,e,_,_,rfl,rfl,s3 _ _ l1,Qc,by rw[jQ,jV];show n+1<=sizeLine;lia,fun x hx=>?_⟩
 refine q x _ ((s1.trans s3).trans (Qd hx _)) ?_ ?_
 .cases e0:H x with
  |none=>rfl
  |some u=>rw[(s1.trans s3) _ _ e0]at hx;cases hx
 .unfold LnA IlA
  rw[Qc,jJb,yK]
  congr 2
  have e1:((List.range n).map fun k=>V.int (g k))=(List.range n).map fun k=>V.int (LnF n g (Su n fun k=>if one k=true then g k else 0) k):=xZ fun k hk=>by rw[Jj (xX.mp hk)]
  rw[e1]
  congr 1
  rw[yX,jYb,Ju,Qgi]
end
def ObN(C:Addr)(H:Hp)(p:Addr)(lk:Str->Option V)(k:Nat):Prop:=∃dx fs,H p=some (.ins C dx fs)/\fs.length<=k/\∀x,fs.lookup x=lk x
section
variable{K:Fg}{mg:Str->Option Value}{C:Addr}{H:Hp}{p:Addr}{lk:Str->Option V}{k:Nat}
theorem ObN.f(S:ObN C H p lk k)(h:k<100):ObF C H p lk:=by
 obtain⟨dx,fs,h1,h2,h3⟩:=S
 exact⟨dx,fs,h1,Om,h3⟩
theorem ObN.set(S:ObN C H p lk k)(T:TbTxt K mg C){f:Str}{v:V}(hf:f∈tbN)(hk:k<100){Q:Hp->Prop}(q:∀o,ObN C (upd H p o) p (lkU lk f v) (k+1)->Q (upd H p o)):∃a' C' dx fs,V.ref p=.ref a'/\H a'=some (.ins C' dx fs)/\Cls K C'/\NoAttr K C' f/\fs.length<1000/\Q (upd H a' (.ins C' dx (putF f v fs))):=by
 obtain⟨dx,fs,h1,h2,h3⟩:=S
 refine⟨p,C,dx,fs,rfl,h1,T.cl,T.na f hf,Om,q _ ⟨dx,_,Qc,jQb (Kn _ _ _) Om,fun x=>?_⟩⟩
 rw[Xr,h3]
 rfl
theorem ObN.same{H':Hp}(S:ObN C H p lk k)(s:∀o,H p=some o->H' p=some o):ObN C H' p lk k:=by
 obtain⟨dx,fs,h1,h2,h3⟩:=S
 exact⟨dx,fs,s _ h1,h2,h3⟩
theorem ObN.ne{c:Addr}(S:ObN C H p lk k)(h:H c=none):c≠p:=fun y=>by
 obtain⟨dx,fs,h1,_⟩:=S
 rw[y,h1]at h
 cases h
end
theorem Qgj{K:Fg}{H H':Hp}{p t C dx:Addr}{fs:List (Str×V)}{xs:List V}(hp:H p=some (.ins C dx fs))(f:∀x u,H x=some u->x≠p->H' x=some u)(h:SqT K H t xs):SqT K H' t xs:=by
 rcases h with(h | ⟨o,h⟩) | h
 .exact .inl (.inl (f _ _ h (Yl h hp (by intro y;cases y))))
 .exact .inl (.inr ⟨o,f _ _ h (Yl h hp (by intro y;cases y))⟩)
 .exact .inr h
theorem Qpy{K:Fg}{H H':Hp}{p t C dx:Addr}{fs:List (Str×V)}{xs:List V}(hp:H p=some (.ins C dx fs))(f:∀x u,H x=some u->x≠p->H' x=some u)(h:SqL K H t xs):SqL K H' t xs:=by
 rcases h with(h | ⟨o,h⟩) | h
 .exact .inl (.inl (f _ _ h (Yl h hp (by intro y;cases y))))
 .exact .inl (.inr ⟨o,f _ _ h (Yl h hp (by intro y;cases y))⟩)
 .exact .inr h
def inL(n:Nat)(pa le we:Addr):Str->Option V:=lkU (lkU (lkU (lkU (fun _=>none) "size" (.int ((n:Nat):Int))) "parts" (.ref pa)) "leasts" (.ref le)) "weights" (.ref we)
theorem inL_p{n:Nat}{pa le we:Addr}:inL n pa le we "parts"=some (.ref pa):=by unfold inL lkU;rw[if_neg Dk,if_neg Dk,if_pos rfl]
theorem inL_l{n:Nat}{pa le we:Addr}:inL n pa le we "leasts"=some (.ref le):=by unfold inL lkU;rw[if_neg Dk,if_pos rfl]
theorem inL_w{n:Nat}{pa le we:Addr}:inL n pa le we "weights"=some (.ref we):=by unfold inL lkU;rw[if_pos rfl]
theorem inL_a{n:Nat}{pa le we:Addr}:inL n pa le we "add_row"=none:=by unfold inL lkU;rw[if_neg Dk,if_neg Dk,if_neg Dk,if_neg Dk]
theorem inL_s{n:Nat}{pa le we:Addr}:inL n pa le we "size"=some (.int ((n:Nat):Int)):=by unfold inL lkU;rw[if_neg Dk,if_neg Dk,if_neg Dk,if_pos rfl]
theorem vo_id{b:Pb}{one:Nat->Bool}{g:Nat->Int}:Vo b.n b.F b.lo (fun k=>k) one g=Su b.n fun k=>if one k=true then g k else 0:=by
 refine Xc fun k hk=>?_
 rw[Qgv b.fx.F1 hk]
 unfold en
 by_cases c:one k=true
 .rw[if_pos c,if_pos c,jKe]
 .rw[if_neg c,if_neg c,b.fx.l0 _ hk,zV]
def tfA(b:Pb):Nat->Bool:=fun k=>decide (b.cA k<0)
abbrev sIni:Stmt:=inClass (top 18) 0
inductive spIni(K:Fg)(C:Addr)(vs:List V)(H:Hp)(Q:VK)(E:XK):Prop|mk(p dx l c:Addr)(vs':List V)(b:Pb)(_:vs=[.ref p,.ref l,.ref c])(_:H p=some (.ins C dx []))(_:SqL K H l vs')(_:RowsAre K H vs' b.rs)(_:SqT K H c (b.cs.map V.int))(_:b.Ok)(_:∀(a:TbA) (z:TbS) (H0 H':Hp),Tab K C H0 H' p a b z->z.o=(fun k=>k)->z.one=tfA b->(∀c o,H c=some o->c≠p->H0 c=some o)->Q .non H'):spIni K C vs H Q E
section
variable{P:Program}{w:World}{K:Fg}{mg:Str->Option Value}{base:Heap}
theorem scIni:FnScope ["self","rows","costs","row","unlike"] ["self","rows","costs"] (Qg sIni):=⟨rfl,rfl,rfl,Dk,rfl,Dk,Dk⟩
theorem okIni{f C:Addr}{fd:FuncData}(F:Fun K "__init__" "Tableau.__init__" sIni f fd)(M:Mg mg)(T:TbTxt K mg C){f_add_row:Addr}{fd_add_row:FuncData}(G_add_row:FnOk P w K mg base CX0 2 f_add_row fd_add_row ["self","row"] (spAdd K C))(b_add_row:Binds K fd_add_row ["self","row"] [])(m_add_row:Meth K C "add_row" f_add_row){f_fl:Addr}{fd_fl:FuncData}(G_flT:FnOk P w K mg base CX0 1 f_fl fd_fl ["self","numbers"] (spFlT K C))(G_flL:FnOk P w K mg base CX0 1 f_fl fd_fl ["self","numbers"] (spFlL K C))(b_first_line:Binds K fd_fl ["self","numbers"] [])(m_first_line:Meth K C "first_line" f_fl):FnOk P w K mg base CX0 3 f fd ["self","rows","costs"] (spIni K C):=by
 refine F.ok scIni (fun vs H Q E h=>?_) (fun cdv A outer s H vs Q E hr h=>?_)
 .obtain⟨p,dx,l,c,vs',b,rfl,_⟩:=h
  rfl
 obtain⟨p,dx,l,c,vs',b,rfl,hp,hl,hrs,hc,ok,q⟩:=h
 have hz:(1000:Nat)<sizeLine:=Dc
 have n7:=ok.n7
 have m7:=ok.m7
 have mem:∀x∈tbN,x∈tbN:=fun _ h=>h
 refine⟨_,(Qb (Zp (pv 0) (Ql Qm rfl M.len Xl (Qa (pv 2) Qe)) rfl)
  (Qb (Zp (pv 0) (Xz Qe) rfl)
  (Qb (Zp (pv 0) (Xz Qe) rfl)
  (Qb (Zp (pv 0) (Xz Qe) rfl)
  (Qb (Yf PassesOwn.never rfl (Xn (pv 1)) (Qx (i:=3) scIni.nd rfl (Or.inl rfl) (Or.inl rfl)) (Qi (Ys (Xf (pv 0) T.cl m_add_row G_add_row (hr.mono Dc) b_add_row .nil Yq (Qa (pv 3) Qe)))))
  (Qb (Zp (pv 0) Qby rfl)
  (Qb (Zp (pv 0) Qf rfl)
  (Qb (Zp (pv 0) Qf rfl)
  (Qb (Zp (pv 0) (Qz (Qbt rfl) rfl M.list_ Yv (Qa (Qnh M.range_ (Qa (Qq (pv 0) rfl) Qe)) Qe)) rfl)
  (Qb (Zp (pv 0) (Zm ["cost"] [none] rfl (Ki (pv 2)) (fun _ _ _=>(Qx (i:=0) (show(["cost"]:List Str).Nodup by decide +kernel) rfl (Or.inl rfl) (Or.inr rfl))) (fun _ _ _=>Xy) (fun _ _ _=>(Yj Jo (pv 0) Qf (Qt _)))) rfl)
  (Qb (Zp (pv 0) Qby rfl)
  (Qb (Zx (i:=4) ["choice"] [none] rfl scIni.nd rfl (Or.inl rfl) (Yo rfl M.range_ (Qa (Qq (pv 0) rfl) Qe)) (fun _ _ _=>(Qx (i:=0) (show(["choice"]:List Str).Nodup by decide +kernel) rfl (Or.inl rfl) (Or.inr rfl))) (fun _ _ _=>Xy) (fun _ _ _=>(Qn Yi (Qn Zd (Qn Xu (Qn Yi (pv 0) Qf) Qf) Qf) Qf)))
  (Qi (Zp (pv 0) (Xz (Qa (Xf (pv 0) T.cl m_first_line G_flT (hr.mono Dc) b_first_line .nil Yq (Qa (pv 2) Qe)) (Qa (Xf (pv 0) T.cl m_first_line G_flL (hr.mono Dc) b_first_line .nil Yq (Qa (pv 4) Qe)) Qe))) rfl)))))))))))))),?_⟩
 have S0:ObN C H p (fun _=>none) 0:=⟨dx,[],hp,jY _,fun _=>rfl⟩
 refine⟨_,rfl,c,_,rfl,.inr hc,_,rfl,S0.set T (by unfold tbN;simp) Dc fun o1 S1=>?_⟩
 rw[jQ]at S1
 have k1:∀x u,H x=some u->x≠p->upd H p o1 x=some u:=fun x u h n=>by rw[Qj n];exact h
 generalize upd H p o1=H1 at S1 k1
 refine⟨by show 0<=sizeLine;decide,fun pa hpa=>⟨_,rfl,(S1.same (H':=upd H1 pa (.lst [])) fun o h=>by rw[Qj (Ne.symm (S1.ne hpa))];exact h).set T (by unfold tbN;simp) Dc fun o2 S2=>?_⟩⟩
 have k2:∀x u,upd H1 pa (.lst []) x=some u->x≠p->upd (upd H1 pa (.lst [])) p o2 x=some u:=fun x u h n=>by rw[Qj n];exact h
 have a2:=k2 pa _ Qc (S1.ne hpa)
 have f2:∀x u,H1 x=some u->x≠p->upd (upd H1 pa (.lst [])) p o2 x=some u:=fun x u h n=>k2 x u (Qd hpa _ _ _ h) n
 generalize upd (upd H1 pa (.lst [])) p o2=H2 at S2 a2 f2
 refine⟨by show 0<=sizeLine;decide,fun le hle=>⟨_,rfl,(S2.same (H':=upd H2 le (.lst [])) fun o h=>by rw[Qj (Ne.symm (S2.ne hle))];exact h).set T (by unfold tbN;simp) Dc fun o3 S3=>?_⟩⟩
 have k3:∀x u,upd H2 le (.lst []) x=some u->x≠p->upd (upd H2 le (.lst [])) p o3 x=some u:=fun x u h n=>by rw[Qj n];exact h
 have a3:=k3 le _ Qc (S2.ne hle)
 have f3:∀x u,H2 x=some u->x≠p->upd (upd H2 le (.lst [])) p o3 x=some u:=fun x u h n=>k3 x u (Qd hle _ _ _ h) n
 have nle:pa≠le:=Qk a2 hle
 generalize upd (upd H2 le (.lst [])) p o3=H3 at S3 a3 f3
 refine⟨by show 0<=sizeLine;decide,fun we hwe=>⟨_,rfl,(S3.same (H':=upd H3 we (.lst [])) fun o h=>by rw[Qj (Ne.symm (S3.ne hwe))];exact h).set T (by unfold tbN;simp) Dc fun o4 S4=>?_⟩⟩
 have k4:∀x u,upd H3 we (.lst []) x=some u->x≠p->upd (upd H3 we (.lst [])) p o4 x=some u:=fun x u h n=>by rw[Qj n];exact h
 have a4:=k4 we _ Qc (S3.ne hwe)
 have f4:∀x u,H3 x=some u->x≠p->upd (upd H3 we (.lst [])) p o4 x=some u:=fun x u h n=>k4 x u (Qd hwe _ _ _ h) n
 have pap:pa≠p:=S1.ne hpa
 have lep:le≠p:=S2.ne hle
 have a3':=f3 _ _ a2 pap
 have nwe1:pa≠we:=Qk a3' hwe
 have nwe2:le≠we:=Qk a3 hwe
 have b2:=f4 _ _ a3' pap
 have b3:=f4 _ _ a3 lep
 have all4:∀x u,H x=some u->x≠p->upd (upd H3 we (.lst [])) p o4 x=some u:=fun x u h n=>f4 _ _ (f3 _ _ (f2 _ _ (k1 _ _ h n) n) n) n
 generalize upd (upd H3 we (.lst [])) p o4=H4 at S4 a4 b2 b3 all4
 have wep:we≠p:=S3.ne hwe
 have S4':ObN C H4 p (inL b.n pa le we) 4:=S4
 clear S4
 have nof:∀{x:Addr},H1 x=none->x≠p->H x=none:=fun{x} h n=>by
  cases e:H x with
  |none=>rfl
  |some u=>rw[k1 _ _ e n]at h;cases h
 have pa0:H pa=none:=nof hpa pap
 have le0:H le=none:=nof (by
  cases e:H1 le with
  |none=>rfl
  |some u=>rw[f2 _ _ e lep]at hle;cases hle) lep
 have we0:H we=none:=nof (by
  cases e:H1 we with
  |none=>rfl
  |some u=>rw[f3 _ _ (f2 _ _ e wep) wep]at hwe;cases hwe) wep
 have lrs:=hrs.length
 let Pv9:Nat->St->Hp->Prop:=fun i σ H5=>∃u:Option V,σ=[some (.ref p),some (.ref l),some (.ref c),u,none]/\ObN C H5 p (inL b.n pa le we) 4/\Ini K H5 pa le we (b.rs.take i)/\∀x u,H x=some u->x≠p->H5 x=some u
 refine⟨_,rfl,l,rfl,⟨_,Qpy hp all4 hl⟩,Ym (xs:=vs') Pv9 ⟨none,rfl,S4',⟨⟨[],b2,.nil⟩,b3,⟨[],a4,rfl,fun w hw=>nomatch hw⟩,nle,nwe1,nwe2⟩,all4⟩ (fun i σ H5 _ ⟨_,_,_,_,f⟩=>Qpy hp f hl) ?_ ?_⟩
 .rintro i v σ H5 e1 ⟨u,rfl,S5,I5,f5⟩
  obtain⟨r,er,tr,rfl,hR⟩:=L2.Paired.getR hrs e1
  have hR5:RowAt K H5 tr r:=by
   obtain⟨cr,q1,q2⟩:=hR
   exact⟨cr,Qgj hp f5 q1,Qgj hp f5 q2⟩
  have hrm:=yQ er
  have hi:=(jW.mp er).1
  refine⟨_,rfl,(S5.f Dc).mt inL_a ⟨_,rfl,p,_,pa,le,we,tr,b.rs.take i,r,rfl,S5.f Dc,inL_p,inL_l,inL_w,I5,?_,hR5,?_,ok.nu r hrm,fun H6 I6 f6=>?_⟩⟩
  .rw[xJ];unfold Pb.m at m7;lia
  .rw[ok.ln r hrm];exact n7
  .have pin:∀o,H5 p=some o->H6 p=some o:=fun o h=>f6 _ _ h (Ne.symm pap) (Ne.symm lep) (Ne.symm wep)
   refine⟨_,rfl,S5.same pin,by rw[Qae er];exact I6,fun x u h n=>f6 _ _ (f5 _ _ h n) (fun y=>by rw[y,pa0]at h;cases h) (fun y=>by rw[y,le0]at h;cases h) (fun y=>by rw[y,we0]at h;cases h)⟩
 rintro σ H5 ⟨u3,rfl,S5,I5,f5⟩
 rw[lrs,wY]at I5
 refine fun he hhe=>⟨_,rfl,(S5.same (H':=upd H5 he (.dK [])) fun o h=>by rw[Qj (Ne.symm (S5.ne hhe))];exact h).set T (by unfold tbN;simp) Dc fun o6 S6=>?_⟩
 have hep:=S5.ne hhe
 obtain⟨dx5,fs5,p5,_⟩:=id S5
 have s6:Same H5 (upd H5 he (.dK [])):=Qd hhe _
 have p6:upd H5 he (.dK []) p=some (.ins C dx5 fs5):=s6 _ _ p5
 have h6:upd H5 he (.dK []) he=some (.dK []):=Qc
 generalize upd H5 he (.dK [])=H6 at S6 s6 p6 h6
 -- what stays
 have ro:RoAt K (wo H6 p) ⟨pa,le,we,he,he,he,he⟩ b:=by
  have fw:∀x u,H5 x=some u->x≠p->wo H6 p x=some u:=fun x u h n=>by rw[Qfc n];exact s6 _ _ h
  obtain⟨⟨us,u1,u2⟩,i2,⟨ws,w1,w2,w3⟩,d1,d2,d3⟩:=I5
  refine⟨⟨us,Qh (fw _ _ u1 pap),Paired.mapP u2 fun v r ⟨l',ts,e,z1,_,_,_,z5⟩=>⟨l',ts,e,Qh (fw _ _ z1 (Yl z1 p5 (by intro y;cases y))),Paired.mapP z5 fun v q ⟨t',e,y⟩=>⟨t',e,Qgj p5 fw y⟩⟩⟩,Qh (fw _ _ i2 lep),⟨ws,Qh (fw _ _ w1 wep),w2,w3⟩,?_⟩
  show wo H6 p he=_
  rw[Qfc hep];exact h6
 have fr0:∀x u,H x=some u->x≠p->wo H6 p x=some u:=fun x u h n=>by rw[Qfc n];exact s6 _ _ (f5 _ _ h n)
 have s06:Same (wo H6 p) (upd H6 p o6):=Qgg
 have p0:wo H6 p p=none:=if_pos rfl
 generalize wo H6 p=H0 at ro fr0 s06 p0
 have lf:∀{Ha:Hp} {x:Addr},Same H0 Ha->Ha x=none->H0 x=none:=fun{Ha x} s h=>by
  cases e:H0 x with
  |none=>rfl
  |some u=>rw[s _ _ e]at h;cases h
 generalize upd H6 p o6=H7 at S6 s06
 refine⟨_,rfl,S6.set T (by unfold tbN;simp) Dc fun o7 S7=>?_⟩
 have s7:=Xg (o:=o7) s06 p0
 generalize upd H7 p o7=H8 at S7 s7
 refine⟨_,rfl,S7.set T (by unfold tbN;simp) Dc fun o8 S8=>?_⟩
 have s8:=Xg (o:=o8) s7 p0
 generalize upd H8 p o8=H9 at S8 s8
 have lks:(lkU (lkU (lkU (inL b.n pa le we) "held" (.ref he)) "work" (.int 0)) "scale" (.int 1)) "size"=some (.int ((b.n:Nat):Int)):=by
  unfold lkU
  rw[if_neg Dk,if_neg Dk,if_neg Dk]
  exact inL_s
 refine⟨_,rfl,(S8.f Dc).fld T (by unfold tbN;simp) lks ⟨_,rfl,fun r hr=>⟨r,_,rfl,Qc,Om,Om,fun ou hou=>?_⟩⟩⟩
 rw[zK]
 have s9:Same H9 (upd (upd H9 r (.rng 0 ((b.n:Nat):Int))) ou (.lst ((List.range b.n).map fun i=>V.int ((i:Nat):Int)))):=(Qd hr _).trans (Qd hou _)
 have ou9:upd (upd H9 r (.rng 0 ((b.n:Nat):Int))) ou (.lst ((List.range b.n).map fun i=>V.int ((i:Nat):Int))) ou=some (.lst ((List.range b.n).map fun i=>V.int ((i:Nat):Int))):=Qc
 have ou0:H9 ou=none:=by
  cases e:H9 ou with
  |none=>rfl
  |some u=>rw[Qd hr _ _ _ e]at hou;cases hou
 generalize upd (upd H9 r (.rng 0 ((b.n:Nat):Int))) ou (.lst ((List.range b.n).map fun i=>V.int ((i:Nat):Int)))=H10 at s9 ou9
 have S9:=S8.same (H':=H10) fun o h=>s9 _ _ h
 have oup:=S8.ne ou0
 refine⟨_,rfl,S9.set T (by unfold tbN;simp) Dc fun o10 S10=>?_⟩
 have s10:=Xg (o:=o10) (s8.trans s9) p0
 have ou10:upd H10 p o10 ou=_:=(Qj oup).trans ou9
 generalize upd H10 p o10=H11 at S10 s10 ou10
 -- ones
 have hcR:∀{Ha:Hp},Same H0 Ha->SqT K Ha c ((List.range b.n).map fun k=>V.int (b.cA k)):=fun s=>by
  have:=s.tup (Qgj hp fr0 hc)
  rw[Qli]at this
  exact this
 refine⟨_,rfl,c,rfl,⟨_,hcR s10⟩,fun on hon=>?_⟩
 refine Zi (xs:=List.range b.n) (val:=fun k=>V.int (b.cA k)) V.bl (tfA b) rfl (Ke (hcR s10)) (by rw[jV];lia) hon (fun k hk Ha sa P h=>⟨_,rfl,_,_,rfl,rfl,h Ha fun _ _ z=>z⟩) fun H12 s12 h12=>?_
 rw[xW]at h12
 have onp:=S10.ne hon
 have S12:=S10.same (H':=H12) fun o h=>s12 _ _ h
 refine⟨_,rfl,S12.set T (by unfold tbN;simp) Dc fun o12 S13=>?_⟩
 have s13:=Xg (o:=o12) (s10.trans s12) p0
 have ou13:upd H12 p o12 ou=_:=(Qj oup).trans (s12 _ _ ou10)
 have on13:upd H12 p o12 on=some (.lst ((List.range b.n).map fun k=>V.bl (tfA b k))):=(Qj onp).trans h12
 have ouon:ou≠on:=Qk ou10 hon
 generalize upd H12 p o12=H13 at S13 s13 ou13 on13
 refine fun inn hinn=>⟨_,rfl,(S13.same (H':=upd H13 inn (.dK [])) fun o h=>by rw[Qj (Ne.symm (S13.ne hinn))];exact h).set T (by unfold tbN;simp) Dc fun o14 S14=>?_⟩
 have innp:=S13.ne hinn
 have s14:=Xg (o:=o14) (s13.trans (Qd hinn (.dK []))) p0
 have ou14:upd (upd H13 inn (.dK [])) p o14 ou=_:=(Qj oup).trans (Qd hinn _ _ _ ou13)
 have on14:upd (upd H13 inn (.dK [])) p o14 on=_:=(Qj onp).trans (Qd hinn _ _ _ on13)
 have in14:upd (upd H13 inn (.dK [])) p o14 inn=some (.dK []):=(Qj innp).trans Qc
 generalize upd (upd H13 inn (.dK [])) p o14=H14 at S14 s14 ou14 on14 in14
 have lks2:(lkU (lkU (lkU (lkU (lkU (lkU (inL b.n pa le we) "held" (.ref he)) "work" (.int 0)) "scale" (.int 1)) "outer" (.ref ou)) "ones" (.ref on)) "inner" (.ref inn)) "size"=some (.int ((b.n:Nat):Int)):=by
  unfold lkU
  rw[if_neg Dk,if_neg Dk,if_neg Dk,if_neg Dk,if_neg Dk,if_neg Dk]
  exact inL_s
 have lko:(lkU (lkU (lkU (lkU (lkU (lkU (inL b.n pa le we) "held" (.ref he)) "work" (.int 0)) "scale" (.int 1)) "outer" (.ref ou)) "ones" (.ref on)) "inner" (.ref inn)) "ones"=some (.ref on):=by
  unfold lkU
  rw[if_neg Dk,if_pos rfl]
 have lkf:(lkU (lkU (lkU (lkU (lkU (lkU (inL b.n pa le we) "held" (.ref he)) "work" (.int 0)) "scale" (.int 1)) "outer" (.ref ou)) "ones" (.ref on)) "inner" (.ref inn)) "first_line"=none:=by
  unfold lkU inL lkU
  rw[if_neg Dk,if_neg Dk,if_neg Dk,if_neg Dk,if_neg Dk,if_neg Dk,if_neg Dk,if_neg Dk,if_neg Dk,if_neg Dk]
 refine⟨_,rfl,(S14.f Dc).fld T (by unfold tbN;simp) lks2 ⟨_,rfl,Om,Om,fun un hun=>?_⟩⟩
 rw[zK]
 refine Zi (xs:=List.range b.n) (val:=fun k=>V.int ((k:Nat):Int)) V.int unl rfl Vc (by rw[jV];lia) hun (fun k hk Ha sa P h=>⟨_,rfl,_,_,rfl,rfl,_,_,rfl,rfl,.inr ⟨Om,Om⟩,_,_,rfl,rfl,by show(0:Int)<1009;decide,_,_,rfl,rfl,h Ha fun _ _ z=>z⟩) fun H15 s15 h15=>?_
 rw[xW]at h15
 have S15:=S14.same (H':=H15) fun o h=>s15 _ _ h
 refine⟨_,rfl,(S15.f Dc).mt lkf ⟨_,rfl,p,_,on,c,b.n,tfA b,b.cA,rfl,S15.f Dc,lko,n7,s15 _ _ on14,hcR (s14.trans s15),fun x0 H16 s16 hx0 hL0=>?_⟩⟩
 have S16:=S15.same (H':=H16) fun o h=>s16 _ _ h
 refine⟨_,rfl,(S16.f Dc).mt lkf ⟨_,rfl,p,_,on,un,b.n,tfA b,unl,rfl,S16.f Dc,lko,n7,(s15.trans s16) _ _ on14,Qh (s16 _ _ h15),fun x1 H17 s17 hx1 hL1=>?_⟩⟩
 refine⟨by show 2<=sizeLine;decide,fun D hD=>?_⟩
 have S17:=S16.same (H':=H17) fun o h=>s17 _ _ h
 have S18:=S17.same (H':=upd H17 D (.lst [.ref x0,.ref x1])) fun o h=>Qd hD _ _ _ h
 refine⟨_,rfl,S18.set T (by unfold tbN;simp) Dc fun o19 S19=>?_⟩
 have ex:∀{y:Addr} {u:HO},H17 y=some u->y≠p->upd (upd H17 D (.lst [.ref x0,.ref x1])) p o19 y=some u:=fun h n=>by rw[Qj n];exact Qd hD _ _ _ h
 have Dp:D≠p:=S17.ne hD
 have x0p:x0≠p:=S15.ne hx0
 have x1p:x1≠p:=S16.ne hx1
 have ou15:=s15 _ _ ou14
 have on15:=s15 _ _ on14
 have ou17:=s17 _ _ (s16 _ _ ou15)
 have on17:=s17 _ _ (s16 _ _ on15)
 have l017:LnA H17 x0 b.n _ _:=s17 _ _ hL0
 have h0o:H0 ou=none:=lf s8 ou0
 have h0n:H0 on=none:=lf s10 hon
 have h0i:H0 inn=none:=lf s13 hinn
 have h0x:H0 x0=none:=lf (s14.trans s15) hx0
 have h0y:H0 x1=none:=lf ((s14.trans s15).trans s16) hx1
 have h0D:H0 D=none:=lf (((s14.trans s15).trans s16).trans s17) hD
 refine q ⟨pa,le,we,he,ou,on,inn⟩ ⟨fun k=>k,tfA b,[],fun _=>ou,D,x0,x1,0⟩ H0 _ ⟨?_,ok,⟨ro.pa,ro.le,ro.we,ro.he⟩,Xg ((((s14.trans s15).trans s16).trans s17).trans (Qd hD _)) p0,ex ou17 oup,ex on17 onp,?_,(fun j hj=>nomatch hj),?_,?_,?_,?_,⟨p0,h0i,?_⟩,jKd,fun j=>⟨fun y=>(nomatch y),fun y=>absurd rfl (y.2 j y.1)⟩,⟨bas_id b.fx.F1,fun k hk=>by unfold Pb.N;show k<_;lia,fun k hk _=>hk⟩⟩ rfl rfl fr0
 .obtain⟨dx',fs',h1,h2,h3⟩:=S19
  refine⟨dx',fs',h1,Om,fun x=>?_⟩
  rw[h3,Qpe b.fx.F1]
  rfl
 .exact ex (s17 _ _ (s16 _ _ (s15 _ _ in14))) innp
 .rw[Qj Dp,Qc]
 .refine IlA.congr (ex l017 x0p) fun k hk=>?_
  unfold LnF
  by_cases y:k<b.n
  .rw[if_pos y,if_pos y,Qgv b.fx.F1 y]
  .rw[if_neg y,if_neg y,vo_id]
 .refine IlA.congr (ex hL1 x1p) fun k hk=>?_
  unfold LnF
  by_cases y:k<b.n
  .rw[if_pos y,if_pos y,Qgv b.fx.F1 y]
  .rw[if_neg y,if_neg y,vo_id]
 .simp only[jYb,kJ,kQ,jZb,or_false,not_or,jKd,and_true,not_false_eq_true]
  exact⟨⟨ouon,Qk ou17 hD,Qk ou15 hx0,Qk (s16 _ _ ou15) hx1⟩,⟨Qk on17 hD,Qk on15 hx0,Qk (s16 _ _ on15) hx1⟩,⟨fun y=>Qk l017 hD y.symm,fun y=>Qk hL1 hD y.symm⟩,Qk hL0 hx1⟩
 .intro x hx
  simp only[jYb,kQ,jZb,or_false]at hx
  rcases hx with e | e | e | e | e<;>rw[e]<;>assumption
theorem brk_of{b:Pb}{z:TbS}{t:Nat}(ht:t<b.N)(hw:¬Wi b.n b.F b.lo z.o z.one t):Brk b.n b.N b.F b.lo z.o z.one t (if t<b.n/\Vo b.n b.F b.lo z.o z.one (b.F t) > et0 (-1)*scl b.n b.F z.o then -1 else 1):=by
 unfold Wi at hw
 rw[show et0 (-1)=1 from rfl]
 by_cases c:t<b.n/\Vo b.n b.F b.lo z.o z.one (b.F t) > 1*scl b.n b.F z.o
 .rw[if_pos c]
  refine⟨ht,.inr ⟨rfl,c.1⟩,?_⟩
  unfold lk et
  rw[if_pos rfl]
  have:=c.2
  lia
 .rw[if_neg c]
  refine⟨ht,.inl rfl,?_⟩
  unfold lk et
  rw[if_neg Dc]
  have:¬b.lo t*scl b.n b.F z.o<=Vo b.n b.F b.lo z.o z.one (b.F t):=fun h=>hw ⟨h,fun y=>by
   have:=fun h'=>c ⟨y,h'⟩
   lia⟩
  lia
theorem Tab.fresh{K:Fg}{C:Addr}{H0 H:Hp}{p:Addr}{a:TbA}{b:Pb}{z:TbS}(S:Tab K C H0 H p a b z){x:Addr}(h:H x=none):x∉tbM a z/\H0 x=none:=by
 refine⟨fun hx=>?_,?_⟩
 .unfold tbM at hx
  simp only[kQ]at hx
  rcases hx with e | e | e | e | e | e
  .rw[e,S.ou]at h;cases h
  .rw[e,S.on]at h;cases h
  .rw[e,S.pr]at h;cases h
  .have:=S.l0;unfold LnA IlA at this;rw[<-e,h]at this;cases this
  .have:=S.l1;unfold LnA IlA at this;rw[<-e,h]at this;cases this
  .obtain⟨j,hj,e⟩:=kY.mp e
   have:=S.lns j hj;unfold LnA IlA at this;rw[e,h]at this;cases this
 .cases e:H0 x with
  |none=>rfl
  |some u=>rw[S.ba _ _ e]at h;cases h
theorem tm_one{n:Nat}{o:Nat->Nat}{L:Nat->Int}{i:Nat}:tm n o (fun k=>1*L k) i=tm n o L i:=by
 unfold tm
 refine Xc fun k _=>?_
 show(if o k=n+i then 1*L k else 0)=_
 rw[jQa]
abbrev sSet:Stmt:=top 19
def EndA(K:Fg)(b:Pb)(H0:Hp)(Q:VK):Prop:=∀(o:Nat->Nat) (one:Nat->Bool) (H':Hp) (g tl wl:Addr),Stt b.n b.N b.F o one->Dual b.n b.F b.cA unl o one->(∀t,t<b.N->Wi b.n b.F b.lo o one t)->Same H0 H'->SqT K H' g [.int (scl b.n b.F o),.ref tl,.ref wl]->IlA H' tl b.m (tm b.n o (Ln b.n b.F o b.cA))->IlA H' wl b.n (fun j=>Vo b.n b.F b.lo o one (b.F j))->Q (.ref g) H'
def EndB(K:Fg)(b:Pb)(H0:Hp)(Q:VK):Prop:=∀(o:Nat->Nat) (one:Nat->Bool) (t:Nat) (side:Int) (H':Hp) (g tl:Addr),Stt b.n b.N b.F o one->Brk b.n b.N b.F b.lo o one t side->(∀k,k<b.n->¬0<hp b.n b.F o one t side k)->Same H0 H'->SqT K H' g [.int 0,.ref tl,.non]->IlA H' tl b.m (ty b.n b.F o t side)->Q (.ref g) H'
inductive spSet(K:Fg)(C:Addr)(vs:List V)(H:Hp)(Q:VK)(E:XK):Prop|mk(H0:Hp)(p:Addr)(a:TbA)(b:Pb)(z:TbS)(_:vs=[.ref p,.non,.non])(_:Tab K C H0 H p a b z)(_:Dual b.n b.F b.cA unl z.o z.one)(_:EndA K b H0 Q)(_:EndB K b H0 Q):spSet K C vs H Q E
theorem scSet:FnScope ["tableau","limit","patience","idle","lacks","plain","thing","side","line","column"] ["tableau","limit","patience"] (Qg sSet):=⟨rfl,rfl,rfl,Dk,rfl,Dk,Dk⟩
theorem okSet{C:Addr}{tP:Tok}(hPa:mg "PATIENCE"=some (.int 100 tP))(T:TbTxt K mg C)(F:Fn K mg "settle" sSet)(M:Mg mg){f_lacks:Addr}{fd_lacks:FuncData}(G_lacks:FnOk P w K mg base CX0 3 f_lacks fd_lacks ["self"] (spLcs K C))(b_lacks:Binds K fd_lacks ["self"] [])(m_lacks:Meth K C "lacks" f_lacks){f_is_over:Addr}{fd_is_over:FuncData}(G_is_over:FnOk P w K mg base CX0 1 f_is_over fd_is_over ["self","limit","patience"] (spOvr K C))(b_is_over:Binds K fd_is_over ["self","limit","patience"] [])(m_is_over:Meth K C "is_over" f_is_over){f_times:Addr}{fd_times:FuncData}(G_times:FnOk P w K mg base CX0 1 f_times fd_times ["self","line","sign"] (Qsa K C))(b_times:Binds K fd_times ["self","line","sign"] [])(m_times:Meth K C "times" f_times){f_worths:Addr}{fd_worths:FuncData}(G_worths:FnOk P w K mg base CX0 1 f_worths fd_worths ["self"] (Qsb K C))(b_worths:Binds K fd_worths ["self"] [])(m_worths:Meth K C "worths" f_worths){f_furthest:Addr}{fd_furthest:FuncData}(G_furthest:FnOk P w K mg base CX0 2 f_furthest fd_furthest ["self","lacks"] (spFur K C))(b_furthest:Binds K fd_furthest ["self","lacks"] [])(m_furthest:Meth K C "furthest" f_furthest){f_side:Addr}{fd_side:FuncData}(G_side:FnOk P w K mg base CX0 2 f_side fd_side ["self","thing"] (spSid K C))(b_side:Binds K fd_side ["self","thing"] [])(m_side:Meth K C "side" f_side){f_line_to:Addr}{fd_line_to:FuncData}(G_line_to:FnOk P w K mg base CX0 2 f_line_to fd_line_to ["self","thing","side"] (spLTo K C))(b_line_to:Binds K fd_line_to ["self","thing","side"] [])(m_line_to:Meth K C "line_to" f_line_to){f_column_for:Addr}{fd_column_for:FuncData}(G_column_for:FnOk P w K mg base CX0 3 f_column_for fd_column_for ["self","line","side","plain"] (spCoF K C))(b_column_for:Binds K fd_column_for ["self","line","side","plain"] [])(m_column_for:Meth K C "column_for" f_column_for){f_times_against:Addr}{fd_times_against:FuncData}(G_times_against:FnOk P w K mg base CX0 2 f_times_against fd_times_against ["self","thing","line","side"] (spTAg K C))(b_times_against:Binds K fd_times_against ["self","thing","line","side"] [])(m_times_against:Meth K C "times_against" f_times_against){f_is_idle:Addr}{fd_is_idle:FuncData}(G_is_idle:FnOk P w K mg base CX0 1 f_is_idle fd_is_idle ["self","column"] (spIdl K C))(b_is_idle:Binds K fd_is_idle ["self","column"] [])(m_is_idle:Meth K C "is_idle" f_is_idle){f_exchange:Addr}{fd_exchange:FuncData}(G_exchange:FnOk P w K mg base CX0 2 f_exchange fd_exchange ["self","thing","line","column","side"] (spExc K C))(b_exchange:Binds K fd_exchange ["self","thing","line","column","side"] [])(m_exchange:Meth K C "exchange" f_exchange):Cal P w K mg base 4 "settle" ["tableau","limit","patience"] (spSet K C):=by
 refine Xt F scSet (fun _ _ _ _ _ _=>Jv (fun _ _ _=>rfl)) (fun vs H Q E h=>?_) (fun f cdv A outer s H vs Q E hr h=>?_)
 .obtain⟨H0,p,a,b,z,rfl,_⟩:=h
  rfl
 obtain⟨H0,p,a,b,z,rfl,S0,D0,qA,qB⟩:=h
 refine⟨_,(Qb (Qp (i:=3) scSet.nd rfl (Or.inl rfl) Qf)
  (Qi (Qbl PassesOwn.never (Xj Km) (Qb (Qp (i:=4) scSet.nd rfl (Or.inl rfl) (Qbm (pv 0) T.cl m_lacks G_lacks (hr.mono Dc) b_lacks .nil Yq))
  (Qb (Xi (Qr Zf (Ql Qm rfl M.len Xl (Qa (pv 4) Qe)) Qf (Qt _)) (Qi (Qs (Xk (Qa (Qq (pv 0) rfl) (Qa (Xf (pv 0) T.cl m_times G_times (hr.mono Dc) b_times .nil Yq (Qa (Qo Qw (Qq (pv 0) rfl) Qf (fun _ _=>rfl)) (Qa Qf Qe))) (Qa (Qbm (pv 0) T.cl m_worths G_worths (hr.mono Dc) b_worths .nil Yq) Qe)))))) Qv)
  (Qb (Xi (Xj (Xf (pv 0) T.cl m_is_over G_is_over (hr.mono Dc) b_is_over .nil Yq (Qa (pv 1) (Qa (pv 2) Qe)))) (Qi (Qs (Xk (Qa (Qq (pv 0) rfl) (Qa (Xf (pv 0) T.cl m_times G_times (hr.mono Dc) b_times .nil Yq (Qa (Qo Qw (Qq (pv 0) rfl) Qf (fun _ _=>rfl)) (Qa Qf Qe))) (Qa Ye Qe)))))) Qv)
  (Qb (Qp (i:=5) scSet.nd rfl (Or.inl rfl) (Yj Qhb (pv 3) (Qrc (v:=.int 100) rfl hPa ⟨_,rfl⟩) (Qt _)))
  (Qb (Qp (i:=6) scSet.nd rfl (Or.inl rfl) (Zq (Xj (pv 5)) (Qo Qu (Qo Qw (pv 4) Qf (fun _ _=>rfl)) Qf (fun _ _=>rfl)) (Xf (pv 0) T.cl m_furthest G_furthest (hr.mono Dc) b_furthest .nil Yq (Qa (pv 4) Qe))))
  (Qb (Qp (i:=7) scSet.nd rfl (Or.inl rfl) (Xf (pv 0) T.cl m_side G_side (hr.mono Dc) b_side .nil Yq (Qa (pv 6) Qe)))
  (Qb (Qp (i:=8) scSet.nd rfl (Or.inl rfl) (Xf (pv 0) T.cl m_line_to G_line_to (hr.mono Dc) b_line_to .nil Yq (Qa (pv 6) (Qa (pv 7) Qe))))
  (Qb (Qp (i:=9) scSet.nd rfl (Or.inl rfl) (Xf (pv 0) T.cl m_column_for G_column_for (hr.mono Dc) b_column_for .nil Yq (Qa (pv 8) (Qa (pv 7) (Qa (pv 5) Qe)))))
  (Qb (Xi (Qr Wl (pv 9) Ye (Qt _)) (Qi (Qs (Xk (Qa Qf (Qa (Xf (pv 0) T.cl m_times_against G_times_against (hr.mono Dc) b_times_against .nil Yq (Qa (pv 6) (Qa (pv 8) (Qa (pv 7) Qe)))) (Qa Ye Qe)))))) Qv)
  (Qb (Qp (i:=3) scSet.nd rfl (Or.inl rfl) (Zq (Xj (Xf (pv 0) T.cl m_is_idle G_is_idle (hr.mono Dc) b_is_idle .nil Yq (Qa (pv 9) Qe))) (Qn Yi (pv 3) Qf) Qf))
  (Qi (Ys (Xf (pv 0) T.cl m_exchange G_exchange (hr.mono Dc) b_exchange .nil Yq (Qa (pv 6) (Qa (pv 8) (Qa (pv 9) (Qa (pv 7) Qe)))))))))))))))))))),?_⟩
 have hz:(1000:Nat)<sizeLine:=Dc
 obtain⟨m0,pot0⟩:=Qim (n:=b.n) (N:=b.N) (F:=b.F) (lo:=b.lo) (cA:=b.cA) (cB:=unl) z.o z.one 0
 refine⟨fun m σ H2=>∃(idle:Nat) (z:TbS) (u4 u5 u6 u7 u8 u9:Option V),σ=[some (.ref p),some .non,some .non,some (.int ((idle:Nat):Int)),u4,u5,u6,u7,u8,u9]/\Tab K C H0 H2 p a b z/\Dual b.n b.F b.cA unl z.o z.one/\Pot b.n b.N b.F b.lo b.cA unl m idle z.o z.one,⟨m0,0,z,none,none,none,none,none,none,rfl,S0,D0,pot0⟩,?_⟩
 rintro m σ H2 ⟨idle,z,u4,u5,u6,u7,u8,u9,rfl,S,D,pot⟩
 refine⟨_,rfl,iteT ⟨_,fun σ' H' h=>h,?_⟩⟩
 refine⟨_,rfl,S.mt ⟨H0,p,a,b,z,rfl,S,fun g vs' ps H3 s3 hg hpt hk=>?_⟩⟩
 have S3:=S.same s3
 have lp:vs'.length=ps.length:=Paired.length hpt
 refine⟨_,rfl,g,_,rfl,.inl (Qh hg),rfl,_,rfl,ite2 (fun e=>?_) (fun e=>?_)⟩
 .have e0:((vs'.length:Nat):Int)=0:=V.int.inj (kK e)
  have pn:ps=[]:=jKf Om
  refine⟨_,rfl,S3.scale T ⟨_,rfl,S3.mt ⟨_,rfl,S3.prices T ⟨z.pr,_,_,_,rfl,rfl,Qh S3.pr,at0,H0,p,a,b,z,z.p0,_,_,1,rfl,S3,S3.l0,.inl rfl,fun tl H4 s4 htl hI=>?_⟩⟩⟩⟩
  have S4:=S3.same s4
  refine⟨_,rfl,S4.mt ⟨H0,p,a,b,z,rfl,S4,fun wl H5 s5 hwl hW=>⟨by show 3<=sizeLine;decide,fun G hG=>?_⟩⟩⟩
  have s6:=Qd hG (.tup [.int (scl b.n b.F z.o),.ref tl,.ref wl])
  exact qA z.o z.one _ G tl wl S.st D (hk.nil pn) ((S4.same s5).ba.trans s6) (Qy Qc) (s6 _ _ (s5 _ _ (hI.congr fun i _=>tm_one))) (s6 _ _ hW)
 .have pn:ps≠[]:=fun y=>e (kW (congrArg V.int (by rw[lp,y];rfl)))
  refine⟨_,rfl,S3.mt ⟨_,rfl,_,rfl,H0,p,a,b,z,rfl,S3,_,rfl,ite2 (fun y=>nomatch y) fun _=>?_⟩⟩
  refine⟨_,rfl,_,_,rfl,rfl,?_⟩
  refine Wb (fun σ' H4=>∃y∈ps,σ'=[some (.ref p),some .non,some .non,some (.int ((idle:Nat):Int)),some (.ref g),some (.bl (decide (100<=idle))),some (.int ((y.1:Nat):Int)),u7,u8,u9]/\Same H3 H4/\(100<=idle->∃rest,ps=y::rest)) ?_ fun REST=>?_
  rotate_left
  .have ed:decide ((100:Int)<=((idle:Nat):Int))=decide (100<=idle):=decide_eq_decide.mpr Om
   refine⟨_,rfl,_,rfl,ite2 (fun e2=>?_) (fun e2=>?_)⟩
   .match ps,vs',hpt,pn with
    |y::rest,v::vs'',.cons ⟨T0,eT,hT⟩ hr,_=>
     subst eT
     refine⟨_,rfl,g,_,_,_,rfl,rfl,Qh hg,Zw (xs:=V.ref T0::vs'') (j:=0) rfl,T0,_,_,_,rfl,rfl,hT,at0,REST _ _ ⟨y,yV ..,by rw[<-ed];rfl,fun _ _ h=>h,fun _=>⟨rest,rfl⟩⟩⟩
   .refine⟨_,rfl,S3.mt ⟨_,rfl,H0,p,a,b,z,g,vs',ps,rfl,S3,Qh hg,hpt,pn,hk.few,fun y hy=>?_,fun y hy H4 s4=>REST _ _ ⟨y,hy,by rw[<-ed];rfl,s4,fun y=>?_⟩⟩⟩
    .obtain⟨h1,h2,h3,h4,_⟩:=hk.mem y hy
     exact⟨h1,h2,h3,h4⟩
    .exact absurd (kW (show(100:Int)<=((idle:Nat):Int)by lia)) e2
  rintro σ' H4 ⟨y,hy,rfl,s4,hfst⟩
  obtain⟨yN,yj,_,_,yw⟩:=hk.mem y hy
  have S4:=S3.same s4
  have B:=brk_of yN yw
  refine⟨_,rfl,S4.mt ⟨_,rfl,H0,p,a,b,z,y.1,rfl,S4,yj,?_⟩⟩
  generalize (if y.1<b.n/\Vo b.n b.F b.lo z.o z.one (b.F y.1) > et0 (-1)*scl b.n b.F z.o then(-1:Int)else 1)=side at B
  refine⟨_,rfl,S4.mt ⟨_,rfl,_,rfl,H0,p,a,b,z,y.1,side,rfl,S4,yN,yj,B.sd,fun x H5 s5 hx hL=>?_⟩⟩
  have S5:=S4.same s5
  obtain⟨x1,x2⟩:=S4.fresh hx
  refine⟨_,rfl,S5.mt ⟨_,rfl,_,rfl,_,rfl,H0,p,a,b,z,x,y.1,side,decide (100<=idle),rfl,S5,B,D,hL,x1,x2,fun r one1 H6 S6 hL6 hF hB hpl=>?_⟩⟩
  have sd:side=1\/side=-1:=by rcases B.sd with w | ⟨w,_⟩;exact .inl w;exact .inr w
  cases r with
  |none=>
   refine⟨_,rfl,rfl,true,rfl,iteT ⟨_,rfl,S6.mt ⟨_,rfl,_,rfl,_,rfl,H0,p,a,b,{ z with one:=one1 },x,y.1,_,side,rfl,S6,hL6,sd,yN,fun tl H7 s7 htl hI=>⟨by show 3<=sizeLine;decide,fun G hG=>?_⟩⟩⟩⟩
   have s8:=Qd hG (.tup [.int 0,.ref tl,.non])
   exact qB z.o one1 y.1 side _ G tl hF.st hF.br hB ((S6.same s7).ba.trans s8) (Qy Qc) (s8 _ _ hI)
  |some c=>
   refine⟨_,rfl,rfl,false,rfl,iteF ?_⟩
   dsimp only[tNext]
   refine Qcm (fun σ' H7=>σ'=[some (.ref p),some .non,some .non,some (.int (((if Ln b.n b.F z.o b.cA c=0/\Ln b.n b.F z.o unl c=0 then idle+1 else 0):Nat):Int)),some (.ref g),some (.bl (decide (100<=idle))),some (.int ((y.1:Nat):Int)),some (.int side),some (.ref x),some (.int ((c:Nat):Int))]/\Same H6 H7) ?_ fun REST2=>?_
   rotate_left
   .refine⟨_,rfl,S6.mt ⟨_,rfl,H0,p,a,b,{ z with one:=one1 },c,rfl,S6,hB.1,fun cc H7 s7 hcc=>⟨_,rfl,?_⟩⟩⟩
    cases cc with
    |true=>
     refine iteT ⟨_,rfl,_,_,rfl,rfl,REST2 _ _ ⟨?_,s7⟩⟩
     rw[if_pos (hcc.mp rfl)]
     rfl
    |false=>
     refine iteF (REST2 _ _ ⟨?_,s7⟩)
     rw[if_neg (fun w=>nomatch hcc.mpr w)]
     rfl
   rintro σ' H7 ⟨rfl,s7⟩
   have S7:=S6.same s7
   refine⟨_,rfl,S7.mt ⟨_,rfl,_,rfl,_,rfl,_,rfl,H0,p,a,b,{ z with one:=one1 },y.1,x,c,side,rfl,S7,hF.br,hB.1,hB.2.1,s7 _ _ hL6,x1,x2,fun z2 H8 S8 e1 e2=>?_⟩⟩
   have stp:Stp b.n b.N b.F b.lo b.cA unl z.o z.one one1 y.1 side c:=⟨hF,hB⟩
   obtain⟨m',lt,pot'⟩:=pot.step b.fx D S.st stp fun hi=>⟨hpl (kW hi),fun t' ht'=>by
    obtain⟨rest,er⟩:=hfst hi
    exact hk.fst y rest er t' ht'⟩
   refine⟨m',lt,_,z2,_,_,_,_,_,_,rfl,S8,?_,?_⟩
   .rw[e1,e2];exact(stp.next D).2
   .rw[e1,e2];exact pot'
end
def absI(i:Int):Int:=if i<0 then -i else i
theorem Qcp(i:Int):absI i=(i.natAbs:Int):=by unfold absI;split<;>lia
def gcdI(a b:Int):Int:=(Int.gcd a b:Int)
theorem Qsh(a b:Int):0<=gcdI a b:=Int.natCast_nonneg _
theorem Qoc(a b:Int):gcdI (absI a) (absI b)=gcdI a b:=by unfold gcdI;rw[Qcp,Qcp];simp[Int.gcd]
theorem Qlj(a:Int)(h:0<=a):gcdI a 0=a:=by unfold gcdI;rw[Int.gcd_zero_right];lia
theorem Qlk(a b:Int)(hb:0<b):gcdI b (a % b)=gcdI a b:=by
 unfold gcdI
 rw[Int.gcd_comm b (a % b)]
 have e:Int.gcd a b=Int.gcd (a % b) b:=by
  have h:=Int.mul_ediv_add_emod a b
  have h2:Int.gcd b a=Int.gcd b (a % b+a / b*b):=by rw[wX (a / b) b,Int.add_comm,h]
  rw[Int.gcd_comm a b,h2,Int.gcd_add_mul_right_right,Int.gcd_comm]
 rw[e]
theorem Qod{a b:Int}(hb:b≠0):0<gcdI a b:=by
 unfold gcdI
 have:=Int.gcd_pos_of_ne_zero_right a hb
 lia
def Jl(a b:Int):Int:=if b<0 then -gcdI a b else gcdI a b
def ratI(a b:Int):Int×Int:=(a.fdiv (Jl a b),b.fdiv (Jl a b))
theorem Qll{a b:Int}(hb:b≠0):Jl a b≠0:=by
 have:=Qod (a:=a) hb
 unfold Jl
 split<;>lia
theorem Qaz{a p:Int}(hp:p≠0)(h:p ∣ a):p*a.fdiv p=a:=by
 obtain⟨c,rfl⟩:=h
 rw[Int.mul_fdiv_cancel_left _ hp]
theorem Qoe{a b:Int}(hb:b≠0)(h:Big b):Big (Jl a b):=by
 have e:(Jl a b).natAbs=Int.gcd a b:=by
  unfold Jl gcdI
  split
  .rw[Int.natAbs_neg];rfl
  .rfl
 unfold Big
 rw[e]
 exact zQ (Nat.le_of_dvd Om (Int.gcd_dvd_natAbs_right a b)) h
theorem lx_in{a b:Int}(h:0<=a)(h2:a=0->0<=b):Lx a b:=by unfold Lx;lia
theorem Qlm{b:Pb}:Dual b.n b.F b.cA unl (fun k=>k) (tfA b):=fun k hk=>by
 unfold pq sx
 rw[Qgv b.fx.F1 hk,Qgv b.fx.F1 hk]
 have u:=Qpu k
 unfold tfA
 by_cases c:b.cA k<0
 .rw[if_pos (kW c)];exact lx_in Om (fun h=>Om)
 .rw[if_neg (fun y=>c (kK y))];exact lx_in Om (fun h=>Om)
abbrev sLcr:Stmt:=top 20
inductive spLcr(K:Fg)(vs:List V)(H:Hp)(Q:VK)(E:XK):Prop|mk(l c:Addr)(vs':List V)(b:Pb)(_:vs=[.ref l,.ref c])(_:SqL K H l vs')(_:RowsAre K H vs' b.rs)(_:SqT K H c (b.cs.map V.int))(_:b.Ok)(_:EndA K b H Q)(_:EndB K b H Q):spLcr K vs H Q E
section
variable{P:Program}{w:World}{K:Fg}{mg:Str->Option Value}{base:Heap}
theorem scLcr:FnScope ["rows","costs"] ["rows","costs"] (Qg sLcr):=⟨rfl,rfl,rfl,Dk,rfl,Dk,Dk⟩
theorem okLcr{C fI:Addr}{fdI:FuncData}(T:TbTxt K mg C)(mI:Mk K C fI)(G_init:FnOk P w K mg base CX0 3 fI fdI ["self","rows","costs"] (spIni K C))(b_init:Binds K fdI ["self","rows","costs"] [])(F:Fn K mg "least_corner" sLcr)(M:Mg mg)(c_settle:Cal P w K mg base 4 "settle" ["tableau","limit","patience"] (spSet K C)):Cal P w K mg base 5 "least_corner" ["rows","costs"] (spLcr K):=by
 refine Xt F scLcr (fun _ _ _ _ _ _=>Zo (fun _ _=>rfl)) (fun vs H Q E h=>?_) (fun f cdv A outer s H vs Q E hr h=>?_)
 .obtain⟨l,c,vs',b,rfl,_⟩:=h
  rfl
 obtain⟨l,c,vs',b,rfl,hl,hrs,hc,ok,qA,qB⟩:=h
 refine⟨_,(Qi (Qs (Xh c_settle (hr.mono Dc) (Qa (Qji mI G_init (hr.mono Dc) rfl T.mgC b_init .nil Yq (Qa (pv 0) (Qa (pv 1) Qe))) (Qa Ye (Qa Ye Qe)))))),?_⟩
 refine⟨_,rfl,_,rfl,fun x dx hx hdx ne=>?_⟩
 have s1:Same H (upd (upd H dx (.own x)) x (.ins C dx [])):=fun y u h=>by rw[Qj (Qk h hx),Qj (Qk h hdx)];exact h
 refine⟨x,dx,l,c,vs',b,rfl,Qc,s1.seq hl,hrs.imp fun _ _ z=>z.same s1,s1.tup hc,ok,fun a z H0 H' S eo en fr=>⟨rfl,?_⟩⟩
 have s0:Same H H0:=fun y u h=>fr y u (s1 _ _ h) (Qk h hx)
 refine⟨H0,x,a,b,z,rfl,S,?_,fun o one H2 g tl wl h1 h2 h3 h4 h5 h6 h7=>qA o one H2 g tl wl h1 h2 h3 (s0.trans h4) h5 h6 h7,fun o one t side H2 g tl h1 h2 h3 h4 h5 h6=>qB o one t side H2 g tl h1 h2 h3 (s0.trans h4) h5 h6⟩
 rw[eo,en]
 exact Qlm
abbrev Wc:Stmt:=top 10
inductive Qsi(vs:List V)(H:Hp)(Q:VK)(E:XK):Prop|mk(a b:Int)(_:vs=[.int a,.int b])(_:Q (.int (gcdI a b)) H):Qsi vs H Q E
theorem scDivisor:FnScope ["one","other","last","rest","left"] ["one","other"] (Qg Wc):=⟨rfl,rfl,rfl,Dk,rfl,Dk,Dk⟩
theorem Qln (F:Fn K mg "divisor" Wc)(M:Mg mg):Cal P w K mg base 1 "divisor" ["one","other"] (Qsi):=by
 refine Xt F scDivisor (fun _ _ _ _ _ _=>Zo (fun _ _=>rfl)) (fun vs H Q E h=>?_) (fun f cdv A outer s H vs Q E hr h=>?_)
 .obtain⟨a,b,rfl,_⟩:=h
  rfl
 obtain⟨a,b,rfl,q⟩:=h
 refine⟨_,(Qb (Qp (i:=2) scDivisor.nd rfl (Or.inl rfl) (Ql Zl rfl M.abs Kj (Qa (pv 0) Qe)))
  (Qb (Qp (i:=3) scDivisor.nd rfl (Or.inl rfl) (Ql Zl rfl M.abs Kj (Qa (pv 1) Qe)))
  (Qb (Qbl PassesOwn.never (Qr Qha (pv 3) Qf (Qt _)) (Qb (Qp (i:=4) scDivisor.nd rfl (Or.inl rfl) (Qn Zd (pv 2) (pv 3)))
  (Qb (Qp (i:=2) scDivisor.nd rfl (Or.inl rfl) (pv 3))
  (Qi (Qp (i:=3) scDivisor.nd rfl (Or.inl rfl) (pv 4))))))
  (Qi (Qs (pv 2)))))),?_⟩
 refine⟨_,rfl,_,rfl,?_⟩
 refine⟨_,rfl,_,rfl,?_⟩
 refine Qmv (fun σ H'=>H'=H/\∃(x y:Int) (l:Option V),σ=[some (.int a),some (.int b),some (.int x),some (.int y),l]/\0<=x/\0<=y/\gcdI x y=gcdI a b)
  (fun σ _=>match σ with | [_,_,_,some (.int y),_]=>y.toNat | _=>0) ⟨rfl,absI a,absI b,none,rfl,by rw[Qcp];lia,by rw[Qcp];lia,Qoc a b⟩ ?_ ?_
 .rintro σ H' ⟨rfl,x,y,l,rfl,hx,hy,hg⟩
  refine⟨_,rfl,rfl,_,rfl,ite2 (fun c=>?_) (fun c=>?_)⟩
  .have hy':0<y:=by
    have:¬V.int y=V.int 0:=of_decide_eq_false (by simpa using c)
    have:y≠0:=fun z=>this (congrArg V.int z)
    lia
   refine⟨_,rfl,_,rfl,_,_,rfl,rfl,hy',?_⟩
   refine⟨_,rfl,_,rfl,⟨rfl,y,x % y,_,rfl,hy,jYc _ Om,(Qlk x y hy').trans hg⟩,?_⟩
   show(x % y).toNat<y.toNat
   have:=jYd x hy'
   have:=jYc x (show y≠0 by lia)
   lia
  .have hy':y=0:=by
    have:V.int y=V.int 0:=kK (by simpa using c)
    injection this
   subst hy'
   rw[Qlj x hx]at hg
   subst hg
   exact⟨_,rfl,q⟩
 .rintro σ H1 Q1 Q2 f ⟨v,e1,e2,c,e3,z⟩
  exact⟨v,e1,e2,c,e3,f _ _ z⟩
abbrev Qgk:Stmt:=top 11
inductive spRat(K:Fg)(vs:List V)(H:Hp)(Q:VK)(E:XK):Prop|mk(a b:Int)(_:vs=[.int a,.int b])(_:Big a)(_:Big b)(_:b≠0)(_:∀(t:Addr) (H':Hp),H t=none->Same H H'->SqT K H' t [.int (ratI a b).1,.int (ratI a b).2]->Q (.ref t) H'):spRat K vs H Q E
theorem scRatio:FnScope ["top","bottom","part"] ["top","bottom"] (Qg Qgk):=⟨rfl,rfl,rfl,Dk,rfl,Dk,Dk⟩
theorem Qsj (F:Fn K mg "ratio" Qgk)(M:Mg mg)(c_divisor:Cal P w K mg base 1 "divisor" ["one","other"] (Qsi)):Cal P w K mg base 2 "ratio" ["top","bottom"] (spRat K):=by
 refine Xt F scRatio (fun _ _ _ _ _ _=>Zo (fun _ _=>rfl)) (fun vs H Q E h=>?_) (fun f cdv A outer s H vs Q E hr h=>?_)
 .obtain⟨a,b,rfl,_⟩:=h
  rfl
 obtain⟨a,b,rfl,ha,hb,h0,h1⟩:=h
 refine⟨_,(Qb (Xi (Qr Zf (pv 1) Qf (Qt _)) (Qi Qmt) Qv)
  (Qb (Qp (i:=2) scRatio.nd rfl (Or.inl rfl) (Xh c_divisor (hr.mono Dc) (Qa (pv 0) (Qa (pv 1) Qe))))
  (Qb (Xi (Qr Jo (pv 1) Qf (Qt _)) (Qi (Qp (i:=2) scRatio.nd rfl (Or.inl rfl) (Ze Ya (pv 2)))) Qv)
  (Qi (Qs (Xk (Qa (Qn Zs (pv 0) (pv 2)) (Qa (Qn Zs (pv 1) (pv 2)) Qe)))))))),?_⟩
 refine⟨_,rfl,rfl,_,rfl,ite2 (fun c=>?_) (fun c=>?_)⟩
 .have c':V.int b=V.int 0:=kK c
  injection c' with c'
  exact absurd c' h0
 .have c':b≠0:=fun z=>c (kW (congrArg V.int z))
  have pn:=Qll (a:=a) c'
  have pb:=Qoe (a:=a) c' hb
  refine⟨_,rfl,_,rfl,a,b,rfl,?_⟩
  refine⟨_,rfl,_,_,rfl,rfl,_,rfl,ite2 (fun c2=>?_) (fun c2=>?_)⟩
  .have ep:Jl a b=-gcdI a b:=if_pos (kK c2)
   rw[ep]at pn pb
   refine⟨_,rfl,_,rfl,?_⟩
   refine⟨_,rfl,_,rfl,_,_,rfl,rfl,⟨pn,pb⟩,_,rfl,_,rfl,_,_,rfl,rfl,⟨pn,pb⟩,by show 2<=sizeLine;decide,fun t ht=>?_⟩
   refine h1 t _ ht (Qd ht _) ?_
   show SqT K _ t [.int (a.fdiv (Jl a b)),.int (b.fdiv (Jl a b))]
   rw[ep]
   exact Qy Qc
  .have ep:Jl a b=gcdI a b:=if_neg fun z=>c2 (kW z)
   rw[ep]at pn pb
   refine⟨_,rfl,_,rfl,_,_,rfl,rfl,⟨pn,pb⟩,_,rfl,_,rfl,_,_,rfl,rfl,⟨pn,pb⟩,by show 2<=sizeLine;decide,fun t ht=>?_⟩
   refine h1 t _ ht (Qd ht _) ?_
   show SqT K _ t [.int (a.fdiv (Jl a b)),.int (b.fdiv (Jl a b))]
   rw[ep]
   exact Qy Qc
theorem Qof(ms:List Int):∀a:Int,0<=a->0<=ms.foldl gcdI a/\ms.foldl gcdI a ∣ a/\(∀m∈ms,ms.foldl gcdI a ∣ m)/\((a≠0\/∃m∈ms,m≠0)->ms.foldl gcdI a≠0):=by
 induction ms with
 |nil=>exact fun a h=>⟨h,Int.dvd_refl _,(fun m hm=>nomatch hm),fun h=>h.elim id fun⟨m,hm,_⟩=>nomatch hm⟩
 |cons m ms ih=>
  intro a h
  obtain⟨i1,i2,i3,i4⟩:=ih (gcdI a m) (Qsh a m)
  rw[kQb]
  have d1:gcdI a m ∣ a:=Int.gcd_dvd_left ..
  have d2:gcdI a m ∣ m:=Int.gcd_dvd_right ..
  refine⟨i1,Int.dvd_trans i2 d1,fun y hy=>?_,fun hn=>i4 ?_⟩
  .rcases kQ.mp hy with e | e
   .rw[e];exact Int.dvd_trans i2 d2
   .exact i3 y e
  .rcases hn with hn | ⟨y,hy,hn⟩
   .left;intro z;exact hn (Int.zero_dvd.mp (by rw[z]at d1;exact d1))
   .rcases kQ.mp hy with e | e
    .left;intro z;exact hn (by rw[e];exact Int.zero_dvd.mp (by rw[z]at d2;exact d2))
    .exact .inr ⟨y,e,hn⟩
abbrev Qog:Stmt:=top 22
inductive Qpz(K:Fg)(vs:List V)(H:Hp)(Q:VK)(E:XK):Prop|mk(tl:Addr)(sc:Int)(ms:List Int)(_:vs=[.int sc,.ref tl])(_:SqL K H tl (ms.map V.int))(_:ms.length<=1000)(_:0<=sc)(_:Big sc)(_:(∀m∈ms,0<=m/\Big m))(_:(sc≠0\/∃m∈ms,m≠0))(_:∀(g q0:Int) (qs:List Int) (T w:Addr) (H':Hp),0<g->g*q0=sc->ms=qs.map (fun q=>g*q)->Same H H'->SqT K H' T [.int q0,.ref w]->SqT K H' w (qs.map V.int)->Q (.ref T) H'):Qpz K vs H Q E
theorem scLow1:FnScope ["scale","times","part","many"] ["scale","times"] (Qg Qog):=⟨rfl,rfl,rfl,Dk,rfl,Dk,Dk⟩
theorem okLow1 (F:Fn K mg "lowest" Qog)(M:Mg mg)(c_divisor:Cal P w K mg base 1 "divisor" ["one","other"] (Qsi)):Cal P w K mg base 2 "lowest" ["scale","times"] (Qpz K):=by
 refine Xt F scLow1 (fun _ _ _ _ _ _=>Zo (fun _ _=>rfl)) (fun vs H Q E h=>?_) (fun f cdv A outer s H vs Q E hr h=>?_)
 .obtain⟨tl,sc,ms,rfl,_⟩:=h
  rfl
 obtain⟨tl,sc,ms,rfl,hl,h7,hs,bs,hm,hn,q⟩:=h
 refine⟨_,(Qb (Qp (i:=2) scLow1.nd rfl (Or.inr rfl) (pv 0))
  (Qb (Yf PassesOwn.never rfl (Xn (pv 1)) (Qx (i:=3) scLow1.nd rfl (Or.inl rfl) (Or.inl rfl)) (Qi (Qp (i:=2) scLow1.nd rfl (Or.inr rfl) (Xh c_divisor (hr.mono Dc) (Qa (pv 2) (Qa (pv 3) Qe))))))
  (Qi (Qs (Xk (Qa (Qn Zs (pv 0) (pv 2)) (Qa (Qz Xe rfl M.tuple_ Yh (Qa (Zm ["many","part"] [none,some 2] rfl (Xn (pv 1)) (fun _ _ _=>(Qx (i:=0) (show(["many","part"]:List Str).Nodup by decide +kernel) rfl (Or.inl rfl) (Or.inr rfl))) (fun _ _ _=>Xy) (fun _ _ _=>(Qn Zs (pv 0) (pv 1)))) Qe)) Qe))))))),?_⟩
 have hz:(1000:Nat)<sizeLine:=Dc
 let Pv10:Nat->St->Hp->Prop:=fun i σ H2=>∃u:Option V,H=H2/\σ=[some (.int sc),some (.ref tl),some (.int ((ms.take i).foldl gcdI sc)),u]
 refine⟨_,rfl,_,rfl,tl,rfl,⟨_,hl⟩,Ym (xs:=ms.map V.int) Pv10 ⟨none,rfl,rfl⟩ (fun i σ H2 _ ⟨_,e,_⟩=>by rw[<-e];exact hl) ?_ ?_⟩
 .rintro i v σ H2 e1 ⟨u,rfl,rfl⟩
  rw[jJ]at e1
  cases e2:ms[i]? with
  |none=>rw[e2]at e1;cases e1
  |some m=>
   rw[e2]at e1
   cases e1
   refine⟨_,rfl,_,rfl,_,m,rfl,some (.int m),rfl,?_⟩
   rw[Qae e2,kJe]
   rfl
 .rintro σ H2 ⟨u,rfl,rfl⟩
  rw[jQ,wY]
  obtain⟨g0,g1,g2,g3⟩:=Qof ms sc hs
  have g4:=g3 hn
  generalize ms.foldl gcdI sc=g at g0 g1 g2 g4
  have bg:Big g:=by
   rcases hn with y | ⟨m,hm',y⟩
   .exact zQ (Nat.le_of_dvd Om (Int.natAbs_dvd_natAbs.mpr g1)) bs
   .exact zQ (Nat.le_of_dvd Om (Int.natAbs_dvd_natAbs.mpr (g2 m hm'))) (hm m hm').2
  refine⟨_,rfl,_,rfl,_,_,rfl,rfl,⟨g4,bg⟩,_,rfl,tl,rfl,⟨_,hl⟩,fun D hD=>?_⟩
  refine Zi (xs:=ms) (val:=V.int) V.int (fun m=>m.fdiv g) rfl (Zn hl) Om hD (fun m hm' H3 s3 P h=>⟨_,rfl,_,rfl,_,_,rfl,rfl,⟨g4,bg⟩,h H3 fun _ _ z=>z⟩) fun H3 s3 h3=>?_
  refine⟨D,_,rfl,.inl ⟨Qh h3,fun w hw=>⟨by show 2<=sizeLine;decide,fun T' hT=>?_⟩⟩⟩
  have s4:=(Qd hw (.tup ((ms.map fun m=>m.fdiv g).map V.int))).trans (Qd hT (.tup [.int (sc.fdiv g),.ref w]))
  refine q g (sc.fdiv g) (ms.map fun m=>m.fdiv g) T' w _ Om (Qaz g4 g1) ?_ (s3.trans s4) (Qy Qc) (Qy (Qd hT _ _ _ Qc))
  rw[xW]
  refine(kJf ms).symm.trans (xZ fun m hm'=>?_)
  exact(Qaz g4 (g2 m hm')).symm
theorem Qoh{n m:Nat}{F:Nat->Nat->Int}{lo:Nat->Int}{y:Nat->Int}(h:∀i,i<m->y i=0):bnd n m F lo (fun _=>0) y=0:=by
 unfold bnd
 rw[Yr fun i hi=>by rw[h i hi,wQ],Yr fun j hj=>by rw[Yr fun i hi=>by rw[h i hi,wQ]];rfl]
 rfl
theorem Qfd(m:Nat)(f:Nat->Int):((List.range m).map f).length=m/\∀i,i<m->((List.range m).map f).getD i 0=f i:=⟨by rw[jQ,jV],fun i hi=>by rw[jZ,jJ,jXa hi];rfl⟩
theorem Qfe{K:Fg}{H:Hp}{x:Addr}{n:Nat}{f:Nat->Int}(h:IlA H x n f):SqL K H x (((List.range n).map f).map V.int):=by rw[xW];exact Qh h
theorem Qgl{K:Fg}{H:Hp}{D t:Addr}{o:HO}{xs:List V}(n:t≠D)(h:SqT K H t xs):SqT K (upd H D o) t xs:=by
 rcases h with(h | ⟨u,h⟩) | h
 .exact .inl (.inl (by rw[Qj n];exact h))
 .exact .inl (.inr ⟨u,by rw[Qj n];exact h⟩)
 .exact .inr h
theorem tm_18{b:Pb}(h:b.Ok){o:Nat->Nat}{one:Nat->Bool}(S:Stt b.n b.N b.F o one){z:Nat->Int}(hz:∀k,-Cx<=z k/\z k<=Cx)(i:Nat):Big (tm b.n o z i):=by
 have h1:=Qfn (f:=fun k=>if o k=b.n+i then z k else 0) (c:=Cx) (n:=b.n) fun k _=>by
  have:=hz k
  have:=cxy
  show -Cx<=(if o k=b.n+i then z k else 0)/\(if o k=b.n+i then z k else 0)<=Cx
  split<;>lia
 have h2:((b.n:Nat):Int)*Cx<=7*Cx:=jXd (by have:=h.n7;lia) (by have:=cxy;lia)
 have cx:=cxy
 refine Ji ?_
 unfold tm
 omega
abbrev sCor:Stmt:=top 23
inductive spCor(K:Fg)(vs:List V)(H:Hp)(Q:VK)(E:XK):Prop|mk(l c:Addr)(vs':List V)(b:Pb)(_:vs=[.ref l,.ref c])(_:SqL K H l vs')(_:RowsAre K H vs' b.rs)(_:SqT K H c (b.cs.map V.int))(_:b.Ok)(_:∀(q0:Int) (qs:List Int) (x:V) (T mu w:Addr) (H':Hp),Same H H'->0<=q0->(∀q∈qs,0<=q)->qs.length=b.m->SqT K H' T [.ref mu,x]->SqT K H' mu [.int q0,.ref w]->SqT K H' w (qs.map V.int)->Q (.ref T) H'):spCor K vs H Q E
theorem scCor:FnScope ["rows","costs","found","scale","worths","multipliers"] ["rows","costs"] (Qg sCor):=⟨rfl,rfl,rfl,Dk,rfl,Dk,Dk⟩
theorem okCor (F:Fn K mg "corner" sCor)(M:Mg mg)(c_least_corner:Cal P w K mg base 5 "least_corner" ["rows","costs"] (spLcr K))(c_lowest:Cal P w K mg base 2 "lowest" ["scale","times"] (Qpz K))(c_ratio:Cal P w K mg base 2 "ratio" ["top","bottom"] (spRat K)):Cal P w K mg base 6 "corner" ["rows","costs"] (spCor K):=by
 refine Xt F scCor (fun _ _ _ _ _ _=>Zo (fun _ _=>rfl)) (fun vs H Q E h=>?_) (fun f cdv A outer s H vs Q E hr h=>?_)
 .obtain⟨l,c,vs',b,rfl,_⟩:=h
  rfl
 obtain⟨l,c,vs',b,rfl,hl,hrs,hc,ok,qA⟩:=h
 refine⟨_,(Qb (Qp (i:=2) scCor.nd rfl (Or.inl rfl) (Xh c_least_corner (hr.mono Dc) (Qa (pv 0) (Qa (pv 1) Qe))))
  (Qb (Qp (i:=3) scCor.nd rfl (Or.inr rfl) (Qo Qu (pv 2) Qf (fun _ _=>rfl)))
  (Qb (Qp (i:=4) scCor.nd rfl (Or.inl rfl) (Qo Qu (pv 2) Qf (fun _ _=>rfl)))
  (Qb (Qp (i:=5) scCor.nd rfl (Or.inl rfl) (Xh c_lowest (hr.mono Dc) (Qa (pv 3) (Qa (Qo Qu (pv 2) Qf (fun _ _=>rfl)) Qe))))
  (Qb (Xi (Qr Wl (pv 4) Ye (Qt _)) (Qi (Qs (Xk (Qa (pv 5) (Qa Ye Qe))))) Qv)
  (Qi (Qs (Xk (Qa (pv 5) (Qa (Qz Xe rfl M.tuple_ Yh (Qa (Zm ["worth","scale"] [none,some 3] rfl (Xn (pv 4)) (fun _ _ _=>(Qx (i:=0) (show(["worth","scale"]:List Str).Nodup by decide +kernel) rfl (Or.inl rfl) (Or.inr rfl))) (fun _ _ _=>Xy) (fun _ _ _=>(Xh c_ratio (hr.mono Dc) (Qa (pv 0) (Qa (pv 1) Qe))))) Qe)) Qe)))))))))),?_⟩
 have hz:(1000:Nat)<sizeLine:=Dc
 have n7:=ok.n7
 have m7:=ok.m7
 have cx:=cxy
 refine⟨_,rfl,_,rfl,l,c,vs',b,rfl,hl,hrs,hc,ok,fun o one H1 G tl wl S D W s1 hG hT hW=>?_,fun o one t side H1 G tl S B nh s1 hG hT=>?_⟩
 .have sp:=Xp S.ba
  have s18:=Qdz ok (o:=o)
  have bs:Big (scl b.n b.F o):=Ji Om
  obtain⟨l1,l2⟩:=Qfd b.m (tm b.n o (Ln b.n b.F o b.cA))
  refine⟨_,rfl,G,_,_,_,rfl,rfl,hG,(rfl:atI [V.int (scl b.n b.F o),.ref tl,.ref wl] 0=some _),_,rfl,G,_,_,_,rfl,rfl,hG,(rfl:atI [V.int (scl b.n b.F o),.ref tl,.ref wl] 2=some _),_,rfl,_,rfl,G,_,_,_,rfl,rfl,hG,(rfl:atI [V.int (scl b.n b.F o),.ref tl,.ref wl] 1=some _),tl,scl b.n b.F o,(List.range b.m).map (tm b.n o (Ln b.n b.F o b.cA)),rfl,Qfe hT,Om,Om,bs,fun m hm=>?_,.inl Om,fun g q0 qs mu w H2 g0 e1 e2 s2 hM hw=>?_⟩
  .obtain⟨i,hi,e⟩:=kY.mp hm
   rw[<-e]
   exact⟨Wf S (fun k hk=>(Qcu D hk).2) i,tm_18 ok S (fun k=>Qcj ok ok.cA k) i⟩
  refine⟨_,rfl,rfl,false,rfl,iteF ?_⟩
  obtain⟨x1,x2⟩:=Qfd b.n (fun j=>Vo b.n b.F b.lo o one (b.F j))
  have hW2:=Qfe (K:=K) (s2 _ _ hW)
  have bx:∀x∈(List.range b.n).map (fun j=>Vo b.n b.F b.lo o one (b.F j)),Big x:=fun x hx=>by
   obtain⟨j,hj,e⟩:=kY.mp hx
   have:=Qkp ok (o:=o) (one:=one) (ok.F j)
   have e5:0<Cy:=Dk
   rw[<-e];exact Ji Om
  have lq:qs.length=b.m:=by
   have:=congrArg List.length e2
   rw[l1,jQ]at this
   exact this.symm
  have qi:∀q∈qs,g*q∈(List.range b.m).map (tm b.n o (Ln b.n b.F o b.cA)):=fun q hq=>by rw[e2];exact kY.mpr ⟨q,hq,rfl⟩
  have qn:∀q∈qs,0<=q:=fun q hq=>by
   obtain⟨i,hi,e⟩:=kY.mp (qi q hq)
   refine jZf (b:=g) ?_ g0
   rw[wX,<-e]
   exact Wf S (fun k hk=>(Qcu D hk).2) i
  have q1:0<=q0:=jZf (b:=g) (by rw[wX,e1];lia) g0
  refine⟨_,rfl,_,rfl,wl,rfl,⟨_,hW2⟩,fun D2 hD2=>?_⟩
  refine Vf (α:=Int) (β:=Int) (xs:=(List.range b.n).map fun j=>Vo b.n b.F b.lo o one (b.F j)) (val:=V.int) (fun _ _ _=>True) id rfl (Zn hW2) (by rw[x1];lia) hD2 (fun _ _ _=>trivial) (fun _=>trivial) (fun x hx H3 s3 hD3 P h=>?_) fun H3 ys s3 h3 hp=>?_
  .exact⟨_,rfl,_,rfl,x,_,rfl,bx x hx,bs,Om,fun t H4 ht s4 hS=>h _ _ s4 trivial⟩
  .refine⟨D2,_,rfl,.inl ⟨Qh h3,fun sp' hsp=>⟨by show 2<=sizeLine;decide,fun T' hT'=>?_⟩⟩⟩
   have s5:=(Qd hsp (.tup ys)).trans (Qd hT' (.tup [.ref mu,.ref sp']))
   have s35:=s3.trans s5
   exact qA q0 qs _ T' mu w _ ((s1.trans s2).trans s35) q1 qn lq (Qy Qc) (s35.tup hM) (s35.tup hw)
 .have sp:=Xp S.ba
  have s18:=Qdz ok (o:=o)
  obtain⟨l1,l2⟩:=Qfd b.m (ty b.n b.F o t side)
  have bd:=Qmr (m:=b.m) b.fx rfl S B nh
  have lp:=B.lk
  have hb:∀i,0<=ty b.n b.F o t side i/\Big (ty b.n b.F o t side i):=fun i=>by
   refine⟨Qir S nh i,?_⟩
   unfold ty
   split
   .exact Ji Om
   .refine tm_18 ok S (fun k=>?_) i
    have:=Qcj ok (o:=o) (ok.F t) k
    rcases B.sd with y | ⟨y,_⟩<;>subst y<;>lia
  refine⟨_,rfl,G,_,_,_,rfl,rfl,hG,(rfl:atI [V.int 0,.ref tl,.non] 0=some _),_,rfl,G,_,_,_,rfl,rfl,hG,(rfl:atI [V.int 0,.ref tl,.non] 2=some _),_,rfl,_,rfl,G,_,_,_,rfl,rfl,hG,(rfl:atI [V.int 0,.ref tl,.non] 1=some _),tl,0,(List.range b.m).map (ty b.n b.F o t side),rfl,Qfe hT,Om,Om,Ji Dk,fun m hm=>?_,.inr ?_,fun g q0 qs mu w H2 g0 e1 e2 s2 hM hw=>?_⟩
  .obtain⟨i,hi,e⟩:=kY.mp hm
   rw[<-e]
   exact hb i
  .refine Classical.byContradiction fun y=>?_
   rw[Qoh fun i hi=>Classical.byContradiction fun w=>y ⟨_,kY.mpr ⟨i,xX.mpr hi,rfl⟩,w⟩]at bd
   lia
  refine⟨_,rfl,rfl,true,rfl,iteT ⟨_,rfl,by show 2<=sizeLine;decide,fun T' hT'=>?_⟩⟩
  have s3:=Qd hT' (.tup [.ref mu,.non])
  have q00:q0=0:=(jXb.mp e1).resolve_left Om
  subst q00
  have lq:qs.length=b.m:=by
   have:=congrArg List.length e2
   rw[l1,jQ]at this
   exact this.symm
  have qi:∀q∈qs,g*q∈(List.range b.m).map (ty b.n b.F o t side):=fun q hq=>by rw[e2];exact kY.mpr ⟨q,hq,rfl⟩
  refine qA 0 qs _ T' mu w _ ((s1.trans s2).trans s3) (jYe _) (fun q hq=>?_) lq (Qy Qc) (s3.tup hM) (s3.tup hw)
  obtain⟨i,hi,e⟩:=kY.mp (qi q hq)
  refine jZf (b:=g) ?_ g0
  rw[wX,<-e]
  exact(hb i).1
abbrev Qgm:Stmt:=top 26
abbrev Qoi:Stmt:=top 27
abbrev Qoj:Stmt:=top 28
abbrev Qok:Stmt:=top 29
abbrev Qgn:Stmt:=top 30
abbrev Vd:Stmt:=top 31
abbrev Qol:Stmt:=top 32
inductive Qqa(vs:List V)(H:Hp)(Q:VK)(E:XK):Prop|mk(c k:Int)(_:vs=[.int c,.int k])(_:0<=k)(_:k<=1000000)(_:∀z:Int,0<=z->z<2147483587->Q (.int z) H):Qqa vs H Q E
inductive Qqb(K:Fg)(vs:List V)(H:Hp)(Q:VK)(E:XK):Prop|mk(a:Addr)(ns:List Int)(k n:Int)(_:vs=[.ref a,.int k,.int n])(_:SqL K H a (ns.map V.int))(_:0<=k)(_:k<=1000)(_:1<=n)(_:n<=1000)(_:∀z:Int,Q (.int z) H):Qqb K vs H Q E
theorem p18:(10:Int) ^ (18:Int).toNat=1000000000000000000:=Dk
theorem bigB{b:Int}(h0:0<b)(h1:b<=2000000000000000000):b≠0/\Big b:=⟨Om,zQ (show b.natAbs<=2000000000000000000 by lia) Dk⟩
theorem Qqc(x:Int)(hx:0<x)(hx2:x<=100)(g:Bool):∃b:Int,atI [V.int x,V.int (2*(10:Int) ^ (18:Int).toNat-1)] (if g=true then 1 else 0)=some (.int b)/\0<b/\b<=2000000000000000000:=by
 rw[p18]
 cases g
 .exact⟨x,rfl,hx,Om⟩
 .exact⟨2*1000000000000000000-1,rfl,Dc,Dc⟩
inductive Qlo(K:Fg)(vs:List V)(H:Hp)(Q:VK)(E:XK):Prop|mk(x many:Int)(g:Bool)(_:vs=[.int x,.int many,.bl g])(_:0<=many)(_:many<=1000)(_:∀(t:Addr) (r:List Int×Int) (H':Hp),Same H H'->RowAt K H' t r->(r.1.length:Int)=many->(∀x∈r.1,In18 x)->In18 r.2->Q (.ref t) H'):Qlo K vs H Q E
inductive Qaf(K:Fg)(vs:List V)(H:Hp)(Q:VK)(E:XK):Prop|mk(a:Addr)(ns:List Int)(many count:Int)(_:vs=[.ref a,.int many,.int count])(_:SqL K H a (ns.map V.int))(_:0<=many)(_:many<=7)(_:0<=count)(_:count<=7)(_:∀(t:Addr) (b:Pb) (H':Hp),Same H H'->ProbAt K H' t b.rs b.cs->b.Ok->((b.n:Nat):Int)=many->((b.m:Nat):Int)=count->Q (.ref t) H'):Qaf K vs H Q E
theorem Qlp{y b:Int}(h0:0<b)(h1:b<=2000000000000000000):In18 (y % b-b / 2):=by
 have a1:=jYc y (show b≠0 by lia)
 have a2:=jYd y h0
 unfold In18 B18
 lia
theorem Qsk:FnScope ["_law_found"] ["_law_found"] (Qg Qgm):=⟨rfl,rfl,rfl,Dk,rfl,Dk,Dk⟩
theorem Qsl(F:Fn K mg "_law_whole" Qgm)(M:Mg mg):Cal P w K mg base 1 "_law_whole" ["_law_found"] (Wz):=by
 refine Xt F Qsk (fun _ _ _ _ _ _=>bind1 (fun _=>rfl)) (fun vs H Q E h=>?_) (fun f cdv A outer s H vs Q E hr h=>?_)
 .obtain⟨z,rfl,_⟩:=h
  rfl
 obtain⟨z,rfl,q⟩:=h
 refine⟨_,(Qi (Qs (Qaq (Ql Qfx rfl M.isinstance Xw (Qa (pv 0) (Qa (Qbs M.int_ Qjw) Qe))) (Qcw (Qpl (Ql Qfx rfl M.isinstance Xw (Qa (pv 0) (Qa (Qbs M.bool_ Qrp) Qe)))))))),?_⟩
 refine⟨_,rfl,_,"int",true,rfl,.inl ⟨rfl,rfl⟩,true,rfl,?_⟩
 refine iteT ⟨_,rfl,_,"bool",false,rfl,.inr (.inl ⟨rfl,rfl⟩),false,rfl,q⟩
theorem scCell:FnScope ["_law_script","_law_k"] ["_law_script","_law_k"] (Qg Qoi):=⟨rfl,rfl,rfl,Dk,rfl,Dk,Dk⟩
theorem okCell(F:Fn K mg "_law_cell_at" Qoi)(M:Mg mg):Cal P w K mg base 1 "_law_cell_at" ["_law_script","_law_k"] (Qdw K):=by
 refine Xt F scCell (fun _ _ _ _ _ _=>Zo (fun _ _=>rfl)) (fun vs H Q E h=>?_) (fun f cdv A outer s H vs Q E hr h=>?_)
 .obtain⟨a,ns,k,rfl,_⟩:=h
  rfl
 obtain⟨a,ns,k,rfl,hS,h0,q⟩:=h
 refine⟨_,(Qb (Xi (Qr Jo (pv 1) (Ql Qm rfl M.len Xl (Qa (pv 0) Qe)) (Qt _)) (Qi (Qs (Qo Qw (pv 0) (pv 1) (fun _ _=>rfl)))) Qv)
  (Qi (Qs Qf))),?_⟩
 refine⟨_,rfl,_,rfl,a,_,rfl,.inl hS,_,_,rfl,rfl,_,rfl,?_⟩
 refine ite2 (fun c=>?_) (fun c=>?_)
 .obtain⟨v,hv⟩:=atNs h0 (kK c)
  exact⟨_,rfl,_,rfl,a,_,_,_,rfl,rfl,hS,hv,q v⟩
 .exact q 0
theorem scMix2:FnScope ["_law_cell","_law_k","_law_number"] ["_law_cell","_law_k"] (Qg Qoj):=⟨rfl,rfl,rfl,Dk,rfl,Dk,Dk⟩
theorem okMix2(F:Fn K mg "_law_mixed" Qoj)(M:Mg mg):Cal P w K mg base 1 "_law_mixed" ["_law_cell","_law_k"] (Qqa):=by
 refine Xt F scMix2 (fun _ _ _ _ _ _=>Zo (fun _ _=>rfl)) (fun vs H Q E h=>?_) (fun f cdv A outer s H vs Q E hr h=>?_)
 .obtain⟨c,k,rfl,_⟩:=h
  rfl
 obtain⟨c,k,rfl,h0,h1,q⟩:=h
 refine⟨_,(Qb (Qp (i:=2) scMix2.nd rfl (Or.inl rfl) (Qn Zd (Qn Yi (Qn Yi (Qn Xu (pv 0) Qf) (Qn Xu (Qn Xu (pv 1) (pv 1)) Qf)) Qf) Qf))
  (Qb (Qp (i:=2) scMix2.nd rfl (Or.inl rfl) (Qn Zd (Qn Xu (pv 2) (pv 2)) Qf))
  (Qi (Qs (Qn Zd (Qn Xu (pv 2) (pv 2)) Qf))))),?_⟩
 refine Qci ?_
 intro rT3 rT2
 have b1:∀x:Int,-(2 ^ 64)<x % 2147483647/\x % 2147483647<2 ^ 64:=fun x=>⟨Om,Om⟩
 have b2:∀x:Int,-(2 ^ 64)<x % 2147483629/\x % 2147483629<2 ^ 64:=fun x=>⟨Om,Om⟩
 refine⟨_,rfl,_,_,rfl,rfl,.inr ⟨Dc,Dc⟩,_,rfl,_,rfl,_,_,rfl,rfl,.inl ⟨Om,Om⟩,_,_,rfl,rfl,.inr ⟨Dc,Dc⟩,_,_,rfl,rfl,_,_,rfl,rfl,_,_,rfl,rfl,(by show(0:Int)<_;decide +kernel),?_⟩
 refine⟨_,rfl,_,rfl,_,_,rfl,rfl,.inl (b1 _),_,_,rfl,rfl,(by show(0:Int)<_;decide +kernel),?_⟩
 refine⟨_,rfl,_,rfl,_,_,rfl,rfl,.inl (b2 _),_,_,rfl,rfl,(by show(0:Int)<_;decide +kernel),q _ (jYc _ Dc) (jYd _ Dc)⟩
theorem scLeft:FnScope ["_law_script","_law_k","_law_count","_law_left_here","_law_j","_law_found"] ["_law_script","_law_k","_law_count"] (Qg Qok):=⟨rfl,rfl,rfl,Dk,rfl,Dk,Dk⟩
theorem okLeft(F:Fn K mg "_law_left" Qok)(M:Mg mg)(cl_cell_at:Cal P w K mg base 1 "_law_cell_at" ["_law_script","_law_k"] (Qdw K))(cl_mixed:Cal P w K mg base 1 "_law_mixed" ["_law_cell","_law_k"] (Qqa)):Cal P w K mg base 2 "_law_left" ["_law_script","_law_k","_law_count"] (Qqb K):=by
 refine Xt F scLeft (fun _ _ _ _ _ _=>Jv (fun _ _ _=>rfl)) (fun vs H Q E h=>?_) (fun f cdv A outer s H vs Q E hr h=>?_)
 .obtain⟨a,ns,k,n,rfl,_⟩:=h
  rfl
 obtain⟨a,ns,k,n,rfl,hS,h0,h1,h2,h3,q⟩:=h
 refine⟨_,(Qb (Qp (i:=3) scLeft.nd rfl (Or.inl rfl) (Xh cl_cell_at (hr.mono Dc) (Qa (pv 0) (Qa (Qn Yi Qf (pv 1)) Qe))))
  (Qb (Yf PassesOwn.never rfl (Qke rfl M.range_ (Qa (Qn Yi (Qn Yi Qf (pv 1)) (pv 2)) (Qa (Ql (Qjc rfl) rfl M.min bt_min (Qa Qf (Qa (Ql Qm rfl M.len Xl (Qa (pv 0) Qe)) Qe))) (Qa (pv 2) Qe)))) (Qx (i:=4) scLeft.nd rfl (Or.inl rfl) (Or.inl rfl)) (Qi (Qp (i:=3) scLeft.nd rfl (Or.inl rfl) (Qn Yi (pv 3) (Xh cl_mixed (hr.mono Dc) (Qa (Qo Qw (pv 0) (pv 4) (fun _ _=>rfl)) (Qa (pv 4) Qe)))))))
  (Qb (Xi (Qr Zf (Qn Zd (Qn Zj (Xh cl_cell_at (hr.mono Dc) (Qa (pv 0) (Qa Qf Qe))) Qf) Qf) Qf (Qt _)) (Qi (Qs (pv 3))) Qv)
  (Qb (Qp (i:=5) scLeft.nd rfl (Or.inl rfl) Qf)
  (Qb (Yf PassesOwn.never rfl (Yo rfl M.range_ (Qa Qf Qe)) (Qx (i:=4) scLeft.nd rfl (Or.inl rfl) (Or.inl rfl)) (Qi (Qp (i:=5) scLeft.nd rfl (Or.inl rfl) (Qn Yi (Qn Xu (pv 5) Qf) (Xh cl_mixed (hr.mono Dc) (Qa (pv 3) (Qa (Qn Yi (pv 4) (Qn Xu Qf (pv 1))) Qe)))))))
  (Qi (Qs (pv 5)))))))),?_⟩
 refine Qnt ?_
 intro rT6 rT5 rT4 rT3 rT2
 refine⟨_,rfl,_,rfl,_,_,rfl,rfl,a,ns,_,rfl,hS,Om,fun z=>?_⟩
 have mx:(if (((ns.map V.int).length:Nat):Int)<63 then(((ns.map V.int).length:Nat):Int)else 63)<=63/\0<=(if (((ns.map V.int).length:Nat):Int)<63 then(((ns.map V.int).length:Nat):Int)else 63)/\(if (((ns.map V.int).length:Nat):Int)<63 then(((ns.map V.int).length:Nat):Int)else 63)<=(((ns.map V.int).length:Nat):Int):=by
  split<;>lia
 refine⟨_,rfl,_,_,rfl,rfl,_,rfl,_,_,rfl,rfl,_,rfl,_,_,rfl,.inl hS,_,_,rfl,_,rfl,?_⟩
 generalize (if (((ns.map V.int).length:Nat):Int)<63 then(((ns.map V.int).length:Nat):Int)else 63)=e at mx⊢
 obtain⟨m1,m2,m3⟩:=mx
 refine⟨_,_,_,rfl,⟨Om,Om,small3 Om Om Om Om Om Om⟩,Qhi (lo:=3+k+n) (c:=n) (n:=(Builtin.Range.rangeSize (3+k+n) e n).toNat) (fun i σ H1=>H1=H/\∃(y:Int) (u:Option V),σ=[some (.ref a),some (.int k),some (.int n),some (.int y),u,none]) ⟨rfl,z,none,rfl⟩ ?_ ?_⟩
 .rintro i σ H1 hi ⟨rfl,y,u,rfl⟩
  have lt:=Qkf (show 0<n by lia) hi
  have pn:0<=(i:Int)*n:=jXf Om Om
  obtain⟨v,hv⟩:=atNs (ns:=ns) (k:=3+k+n+(i:Int)*n) Om Om
  exact⟨_,rfl,_,rfl,_,rfl,a,_,_,_,rfl,rfl,hS,hv,_,rfl,v,_,rfl,Om,Om,fun x _ _=>⟨_,_,rfl,rfl,rfl,_,_,rfl⟩⟩
 .rintro σ H1 ⟨rfl,y,u,rfl⟩
  refine⟨_,rfl,a,ns,1,rfl,hS,Dc,fun c=>⟨_,_,rfl,rfl,⟨Dc,Dc⟩,_,_,rfl,rfl,(by show(0:Int)<_;decide +kernel),rfl,_,rfl,ite2 (fun _=>⟨_,rfl,q y⟩) (fun _=>?_)⟩⟩
  let Pv11:Nat->St->Hp->Prop:=fun i σ H2=>H2=H1/\∃(f:Int) (u:Option V),σ=[some (.ref a),some (.int k),some (.int n),some (.int y),u,some (.int f)]
  refine⟨5,rfl,Dc,Dc,Jk (lo:=0) (n:=(5:Int).toNat) Pv11 ⟨rfl,0,_,rfl⟩ ?_ ?_⟩
  .rintro i σ H2 hi ⟨rfl,f,u,rfl⟩
   have hi':i<5:=hi
   exact⟨_,rfl,_,_,rfl,rfl,.inr ⟨Dc,Dc⟩,_,rfl,_,rfl,_,rfl,_,_,rfl,rfl,.inl ⟨Dc,Dc⟩,_,_,rfl,rfl,y,_,rfl,Om,Om,fun x _ _=>⟨_,_,rfl,rfl,rfl,_,_,rfl⟩⟩
  .rintro σ H2 ⟨rfl,f,u,rfl⟩
   exact⟨_,rfl,q f⟩
theorem scRow22:FnScope ["_law_left_here","_law_many","_law_great","_law_numbers","_law_base","_law_k"] ["_law_left_here","_law_many","_law_great"] (Qg Qgn):=⟨rfl,rfl,rfl,Dk,rfl,Dk,Dk⟩
theorem Qsm(F:Fn K mg "_law_row" Qgn)(M:Mg mg):Cal P w K mg base 1 "_law_row" ["_law_left_here","_law_many","_law_great"] (Qlo K):=by
 refine Xt F scRow22 (fun _ _ _ _ _ _=>Jv (fun _ _ _=>rfl)) (fun vs H Q E h=>?_) (fun f cdv A outer s H vs Q E hr h=>?_)
 .obtain⟨x,many,g,rfl,_⟩:=h
  rfl
 obtain⟨x,many,g,rfl,h0,h1,q⟩:=h
 refine⟨_,(Qb (Qp (i:=3) scRow22.nd rfl (Or.inl rfl) (Xz Qe))
  (Qb (Qp (i:=4) scRow22.nd rfl (Or.inl rfl) (Qo Qw (Xz (Qa Qf (Qa (Qn Xs (Qn Xu Qf (Qn Wj Qf Qf)) Qf) Qe))) (Qz Qcz rfl M.int_ Qjw (Qa (pv 2) Qe)) (fun _ _=>rfl)))
  (Qb (Yf PassesOwn.never rfl (Yo rfl M.range_ (Qa (pv 1) Qe)) (Qx (i:=5) scRow22.nd rfl (Or.inl rfl) (Or.inl rfl)) (Qb (Ys (Vw PySem.F.plainAttrs_list PySem.F.slot_list_append PySem.F.type_list_append Yp (pv 3) (Qa (Qn Xs (Qn Zd (pv 0) (pv 4)) (Qn Zj (pv 4) Qf)) Qe)))
  (Qi (Qp (i:=0) scRow22.nd rfl (Or.inl rfl) (Qn Zs (pv 0) (pv 4))))))
  (Qb (Qp (i:=4) scRow22.nd rfl (Or.inl rfl) (Qo Qw (Xz (Qa Qf (Qa (Qn Xs (Qn Xu Qf (Qn Wj Qf Qf)) Qf) Qe))) (Qz Qcz rfl M.int_ Qjw (Qa (pv 2) Qe)) (fun _ _=>rfl)))
  (Qi (Qs (Xk (Qa (Qz Xe rfl M.tuple_ Yh (Qa (pv 3) Qe)) (Qa (Qn Xs (Qn Zd (pv 0) (pv 4)) (Qn Zj (pv 4) Qf)) Qe))))))))),?_⟩
 refine Qns ?_
 intro rT5 rT4 rT3 rT2
 have hz:(1000:Nat)<sizeLine:=Dc
 refine⟨by show 0<=sizeLine;decide,fun g0 hg0=>?_⟩
 obtain⟨b,hb,b0,b1⟩:=Qqc 9 Dc Dc g
 obtain⟨b',hb',b0',b1'⟩:=Qqc 15 Dc Dc g
 have hd:=bigB b0 b1
 refine⟨_,_,rfl,rfl,⟨Dc,Dc,Dc⟩,_,_,rfl,rfl,.inl ⟨Dc,Dc⟩,_,_,rfl,rfl,by show 2<=sizeLine;decide,fun p hp=>?_⟩
 have s1:Same H (upd (upd H g0 (.lst [])) p (.lst [V.int 9,V.int (2*(10:Int) ^ (18:Int).toNat-1)])):=(Qd hg0 _).trans (Qd hp _)
 refine⟨_,rfl,.inr ⟨g,rfl,?_⟩⟩
 refine⟨p,_,_,_,rfl,rfl,Qh Qc,hb,?_⟩
 let Pv12:Nat->St->Hp->Prop:=fun i σ H1=>∃(y:Int) (ms:List Int) (u:Option V),σ=[some (.int y),some (.int many),some (.bl g),some (.ref g0),some (.int b),u]/\ms.length=i/\(∀m∈ms,In18 m)/\H1 g0=some (.lst (ms.map V.int))/\∀c o,H c=some o->H1 c=some o
 refine⟨_,rfl,many,rfl,Om,Om,Jk (lo:=0) (n:=many.toNat) Pv12
  ⟨x,[],none,rfl,rfl,(fun m hm=>nomatch hm),by rw[Qj (Qk Qc hp)];exact Qc,s1⟩ ?_ ?_⟩
 .rintro i σ H1 hi ⟨y,ms,u,rfl,rfl,hI,hg,s2⟩
  refine⟨_,rfl,.inl ⟨rfl,_,Qh hg⟩,_,rfl,_,rfl,_,_,rfl,rfl,b0,_,rfl,_,_,rfl,rfl,⟨Dc,Dc⟩,_,_,rfl,rfl,g0,_,_,rfl,rfl,hg,by rw[jQ];lia,?_⟩
  refine⟨_,rfl,_,rfl,_,_,rfl,rfl,hd,_,ms++[y % b-b / 2],_,rfl,by rw[kZ];rfl,(fun m hm=>(zY.mp hm).elim (hI m) fun z=>by rw[yW.mp z];exact Qlp b0 b1),by rw[Qc,yK];rfl,fun c o e=>?_⟩
  rw[Qj (Qk e hg0)]
  exact s2 c o e
 .rintro σ H1 ⟨y,ms,u,rfl,hl,hI,hg,s2⟩
  refine⟨_,_,rfl,rfl,⟨Dc,Dc,Dc⟩,_,_,rfl,rfl,.inl ⟨Dc,Dc⟩,_,_,rfl,rfl,by show 2<=sizeLine;decide,fun p2 hp2=>?_⟩
  have s3:=(show Same H H1 from s2).trans (Qd hp2 (.lst [V.int 15,V.int (2*(10:Int) ^ (18:Int).toNat-1)]))
  refine⟨_,rfl,.inr ⟨g,rfl,?_⟩⟩
  refine⟨p2,_,_,_,rfl,rfl,Qh Qc,hb',?_⟩
  refine⟨_,rfl,g0,_,rfl,.inl ⟨Qh (by rw[Qj (Qk hg hp2)];exact hg),fun l2 hl2=>?_⟩⟩
  refine⟨_,rfl,_,rfl,_,_,rfl,rfl,b0',_,rfl,_,_,rfl,rfl,⟨Dc,Dc⟩,_,_,rfl,rfl,by show 2<=sizeLine;decide,fun t ht=>?_⟩
  have nt:l2≠t:=Qk Qc ht
  exact q t (ms,_) _ ((s3.trans (Qd hl2 _)).trans (Qd ht _)) ⟨l2,Qy Qc,Qy (by rw[Qj nt];exact Qc)⟩ (by show(ms.length:Int)=many;lia) hI (Qlp b0' b1')
theorem scProblem:FnScope ["_law_script","_law_many","_law_count","_law_great","_law_rows"] ["_law_script","_law_many","_law_count"] (Qg Vd):=⟨rfl,rfl,rfl,Dk,rfl,Dk,Dk⟩
theorem Qlq(F:Fn K mg "_law_problem" Vd)(M:Mg mg)(cl_cell_at:Cal P w K mg base 1 "_law_cell_at" ["_law_script","_law_k"] (Qdw K))(cl_row:Cal P w K mg base 1 "_law_row" ["_law_left_here","_law_many","_law_great"] (Qlo K))(cl_left:Cal P w K mg base 2 "_law_left" ["_law_script","_law_k","_law_count"] (Qqb K)):Cal P w K mg base 3 "_law_problem" ["_law_script","_law_many","_law_count"] (Qaf K):=by
 refine Xt F scProblem (fun _ _ _ _ _ _=>Jv (fun _ _ _=>rfl)) (fun vs H Q E h=>?_) (fun f cdv A outer s H vs Q E hr h=>?_)
 .obtain⟨a,ns,many,count,rfl,_⟩:=h
  rfl
 obtain⟨a,ns,many,count,rfl,hS,h2,h3,h4,h5,q⟩:=h
 have hu:(A.deeper (PyProof.Rows.envOfC "_law_problem" (Qg Vd) s.heap.objs.size f cdv)).units+1<cLine:=zQ (zZ Dc _) hr.un
 refine⟨_,(Qb (Qp (i:=3) scProblem.nd rfl (Or.inr rfl) (Yj Zf (Qn Zd (Qn Zj (Xh cl_cell_at (hr.mono Dc) (Qa (pv 0) (Qa Qf Qe))) Qf) Qf) Qf (Qt _)))
  (Qb (Zx (i:=4) ["_law_k","_law_script","_law_many","_law_count","_law_great"] [none,some 0,some 1,some 2,some 3] rfl scProblem.nd rfl (Or.inl rfl) (Yo rfl M.range_ (Qa (pv 2) Qe)) (fun _ _ _=>(Qx (i:=0) (show(["_law_k","_law_script","_law_many","_law_count","_law_great"]:List Str).Nodup by decide +kernel) rfl (Or.inl rfl) (Or.inr rfl))) (fun _ _ _=>Xy) (fun _ _ _=>(Xh cl_row (hr.mono Dc) (Qa (Xh cl_left (hr.mono Dc) (Qa (pv 1) (Qa (Qn Yi Qf (pv 0)) (Qa (Qn Yi (pv 3) Qf) Qe)))) (Qa (pv 2) (Qa (pv 4) Qe))))))
  (Qi (Qs (Xk (Qa (pv 4) (Qa (Qo Qu (Xh cl_row (hr.mono Dc) (Qa (Xh cl_left (hr.mono Dc) (Qa (pv 0) (Qa Qf (Qa (Qn Yi (pv 2) Qf) Qe)))) (Qa (pv 1) (Qa (pv 3) Qe)))) Qf (fun _ _=>rfl)) Qe))))))),?_⟩
 refine Qci ?_
 intro rT3 rT2
 have hz:(1000:Nat)<sizeLine:=Dc
 refine⟨_,rfl,a,ns,0,rfl,hS,Dc,fun z=>⟨_,_,rfl,rfl,⟨Dc,Dc⟩,_,_,rfl,rfl,(by show(0:Int)<_;decide +kernel),rfl,?_⟩⟩
 refine⟨_,rfl,count,rfl,Om,Om,fun D hD=>?_⟩
 let Pv13:Nat->St->List V->Hp->Prop:=fun i τ ys H1=>∃(rs:List (List Int×Int)) (v:Option V),τ=[v,some (.ref a),some (.int many),some (.int count),some (.bl (decide (V.int (z / 64 % 8)=V.int 1)))]/\RowsAre K H1 ys rs/\(∀r∈rs,(r.1.length:Int)=many/\(∀x∈r.1,In18 x)/\In18 r.2)/\rs.length=i/\H1 D=some (.lst ys)/\Same H H1
 refine Kk (n:=count.toNat) Pv13
  ?_ (fun i τ ys H1 hi h=>?_) (fun i τ ys H1 hi h=>hi) (fun τ ys H1 h=>jY _) ?_ ?_
 .exact⟨[],none,rfl,.nil,(fun r hr=>nomatch hr),rfl,Qc,Qd hD _⟩
 .obtain⟨rs,v,rfl,hr',hm,rfl,hD1,s1⟩:=h
  exact⟨hD1,by rw[hr'.length];lia⟩
 .rintro i τ ys H1 x H2 hi ⟨rs,v,rfl,hr',hm,rfl,hD1,s1⟩ ⟨rfl,rfl⟩
  refine⟨_,rfl,_,rfl,_,_,rfl,rfl,_,rfl,_,_,rfl,rfl,a,ns,_,_,rfl,s1.seq hS,Om,Om,Om,Om,fun y=>?_⟩
  refine⟨_,rfl,_,rfl,y,many,decide (V.int (z / 64 % 8)=V.int 1),rfl,h2,Om,fun t r H3 s3 rt hl hi1 hi2=>⟨s3 _ _ hD1,rs++[r],_,rfl,?_,?_,by rw[kZ];rfl,Qc,fun b o e=>?_⟩⟩
  .exact RowsAre.snoc (hr'.imp fun _ _ z=>(z.same s3).upd (s3 _ _ hD1)) (rt.upd (s3 _ _ hD1))
  .intro r' hr2
   rcases zY.mp hr2 with z | z
   .exact hm r' z
   .rw[yW.mp z];exact⟨hl,hi1,hi2⟩
  .rw[Qj (Qk e hD)]
   exact s3 _ _ (s1 b o e)
 .rintro τ ys H1 ⟨rs,v,rfl,hr',hm,hl,hD1,s1⟩
  refine⟨_,rfl,_,rfl,_,rfl,_,_,rfl,rfl,a,ns,_,_,rfl,s1.seq hS,Dc,Dc,Om,Om,fun y=>?_⟩
  refine⟨_,rfl,_,rfl,y,many,decide (V.int (z / 64 % 8)=V.int 1),rfl,h2,Om,fun t r H3 s3 rt hl' hi1 hi2=>?_⟩
  obtain⟨p,rt1,rt2⟩:=rt
  refine⟨t,_,_,_,rfl,rfl,rt1,at0,by show 2<=sizeLine;decide,fun u hu'=>?_⟩
  have s4:Same H3 (upd H3 u (.tup [.ref D,.ref p])):=Qd hu' _
  have en:(⟨rs,r.1⟩:Pb).n=r.1.length:=rfl
  have em:(⟨rs,r.1⟩:Pb).m=rs.length:=rfl
  exact q u ⟨rs,r.1⟩ _ (s1.trans (s3.trans s4)) ⟨D,p,ys,Qy Qc,s4.seq (Qh (s3 _ _ hD1)),hr'.imp fun _ _ z=>(z.same s3).same s4,s4.tup rt2⟩ ⟨by rw[en];lia,by rw[em];lia,fun r' hr2=>by rw[en];have:=(hm r' hr2).1;lia,fun r' hr2=>(hm r' hr2).2.1,fun r' hr2=>(hm r' hr2).2.2,hi1⟩ (by rw[en];exact hl') (by rw[em];lia)
theorem scCopy:FnScope ["_law_problem_here"] ["_law_problem_here"] (Qg Qol):=⟨rfl,rfl,rfl,Dk,rfl,Dk,Dk⟩
abbrev Vi:Stmt:=top 4
abbrev Part:=(List Int×Int)×Int
def addPart(a:List Int×Int)(p:Part):List Int×Int:=(List.zipWith (fun x y=>x+p.2*y) a.1 p.1.1,a.2+p.2*p.1.2)
def Yg(n:Nat)(ps:List Part):List Int×Int:=ps.foldl addPart (List.replicate n 0,0)
theorem Qff(n:Nat){ps:List Part}{i:Nat}{p:Part}(h:ps[i]?=some p):Yg n (ps.take (i+1))=addPart (Yg n (ps.take i)) p:=by
 rw[Qcd h];unfold Yg;rw[kJe];rfl
theorem Qom(ps:List Part):∀(a:List Int×Int),(∀p∈ps,p.1.1.length=a.1.length)->(ps.foldl addPart a).1.length=a.1.length:=by
 induction ps with
 |nil=>intro a _;rfl
 |cons p t ih=>
  intro a h
  have h1:=h p yV
  have e:(addPart a p).1.length=a.1.length:=by show(List.zipWith _ _ _).length=_;rw[kZe];lia
  rw[kQb,ih _ (fun q hq=>by rw[e];exact h q (yZ _ hq)),e]
theorem Jm(n:Nat)(ps:List Part)(h:∀p∈ps,p.1.1.length=n):(Yg n ps).1.length=n:=by
 have:=Qom ps (List.replicate n 0,0) (fun p hp=>by rw[h p hp];exact(kQc ..).symm)
 unfold Yg
 rw[this]
 exact kQc ..
def colP(ps:List Part)(i:Nat):Int:=(ps.map fun p=>p.2*p.1.1.getD i 0).sum
def Qea(ps:List Part):Int:=(ps.map fun p=>p.2*p.1.2).sum
theorem Qon(ps:List Part):∀(a:List Int×Int),(∀p∈ps,p.1.1.length=a.1.length)->∀i,i<a.1.length->(ps.foldl addPart a).1.getD i 0=a.1.getD i 0+colP ps i:=by
 induction ps with
 |nil=>intro a _ i _;show a.1.getD i 0=a.1.getD i 0+0;lia
 |cons p t ih=>
  intro a h i hi
  have h1:=h p yV
  have e:(addPart a p).1.length=a.1.length:=by show(List.zipWith _ _ _).length=_;rw[kZe];lia
  rw[kQb,ih _ (fun q hq=>by rw[e];exact h q (yZ _ hq)) i (by rw[e];exact hi)]
  have e2:(addPart a p).1.getD i 0=a.1.getD i 0+p.2*p.1.1.getD i 0:=by
   show(List.zipWith _ _ _).getD i 0=_
   have g1:a.1[i]?=some (a.1[i]'hi):=gE hi
   have g2:p.1.1[i]?=some (p.1.1[i]'Om):=gE Om
   rw[jZ,jZ,jZ,List.getElem?_zipWith,g1,g2]
   rfl
  rw[e2]
  show _=a.1.getD i 0+(p.2*p.1.1.getD i 0+colP t i)
  lia
theorem fold_snd(ps:List Part):∀(a:List Int×Int),(ps.foldl addPart a).2=a.2+Qea ps:=by
 induction ps with
 |nil=>intro a;show a.2=a.2+0;lia
 |cons p t ih=>
  intro a
  rw[kQb,ih]
  show a.2+p.2*p.1.2+Qea t=a.2+(p.2*p.1.2+Qea t)
  lia
theorem Vt(n:Nat)(ps:List Part):(Yg n ps).2=Qea ps:=by
 unfold Yg
 rw[fold_snd]
 show(0:Int)+_=_
 lia
theorem Qho(n:Nat)(ps:List Part)(h:∀p∈ps,p.1.1.length=n)(i:Nat)(hi:i<n):(Yg n ps).1.getD i 0=colP ps i:=by
 unfold Yg
 rw[Qon ps _ (fun p hp=>by rw[h p hp];exact(kQc ..).symm) i (by show i<(List.replicate n (0:Int)).length;rw[kQc];exact hi)]
 show(List.replicate n (0:Int)).getD i 0+_=_
 have:(List.replicate n (0:Int)).getD i 0=0:=by
  rw[jZ,kKb];split<;>rfl
 lia
theorem Qeb(n:Nat)(ps:List Part)(h:∀p∈ps,p.1.1.length=n):(Yg n ps).1=(List.range n).map (colP ps):=by
 apply kJd
 intro i
 have hl:=Jm n ps h
 by_cases hi:i<n
 .have:=Qho n ps h i hi
  rw[jZ,gE Om]at this
  rw[gE Om,jJ,jXa hi]
  exact congrArg some this
 .rw[jQd.mpr Om,jQd.mpr (by rw[jQ,jV];lia)]
theorem rep0(n:Nat):(List.replicate n [V.int 0]).flatten=(List.replicate n (0:Int)).map V.int:=by
 induction n with
 |zero=>rfl
 |succ n ih=>rw[jYf,kQf,ih,jYf,yX];rfl
theorem Qsn{f:Int->Int->Int}{ns ms:List Int}{i:Nat}{n m:Int}(h1:ns[i]?=some n)(h2:ms[i]?=some m):(List.zipWith f ns ms)[i]?=some (f n m):=by
 rw[List.getElem?_zipWith,h1,h2]
def Qoo(K:Fg)(H:Hp)(vs:List V)(ps:List Part):Prop:=vs.length=ps.length/\∀(i:Nat) (v:V) (p:Part),vs[i]?=some v->ps[i]?=some p->∃T t,v=.ref T/\SqT K H T [.ref t,.int p.2]/\RowAt K H t p.1
inductive spSum(K:Fg)(vs:List V)(H:Hp)(Q:VK)(E:XK):Prop|mk(l:Addr)(us:List V)(ps:List Part)(n:Nat)(_:vs=[.int (n:Int),.ref l])(_:SqL K H l us)(_:Qoo K H us ps)(_:n<=1000)(_:(∀p∈ps,p.1.1.length=n/\-(2 ^ 64)<p.2/\p.2<2 ^ 64))(_:∀t H',Same H H'->RowAt K H' t (Yg n ps)->Q (.ref t) H'):spSum K vs H Q E
theorem scSumRow:FnScope ["count","parts","numbers","least","row","many"] ["count","parts"] (Qg Vi):=⟨rfl,rfl,rfl,Dk,rfl,Dk,Dk⟩
theorem Qop(F:Fn K mg "sum_row" Vi)(M:Mg mg):Cal P w K mg base 1 "sum_row" ["count","parts"] (spSum K):=by
 refine Xt F scSumRow (fun _ _ _ _ _ _ us hl=>match us,hl with | [_,_],_=>rfl) (fun vs H Q E h=>?_) (fun f cdv A outer s H vs Q E hr h=>?_)
 .obtain⟨l,us,ps,n,rfl,_⟩:=h
  rfl
 obtain⟨l,us,ps,n,rfl,hl,hps,hn,hps2,q⟩:=h
 have hu6:(A.deeper (PyProof.Rows.envOfC "sum_row" (Qg Vi) s.heap.objs.size f cdv)).units+6<cLine:=zQ (zZ Dc _) hr.un
 have hu:(A.deeper (PyProof.Rows.envOfC "sum_row" (Qg Vi) s.heap.objs.size f cdv)).units+1<cLine:=zQ (zZ Dc _) hr.un
 refine⟨_,(Qb (Qp (i:=2) scSumRow.nd rfl (Or.inl rfl) (Qn Wq (Xz (Qa Qf Qe)) (pv 0)))
  (Qb (Qp (i:=3) scSumRow.nd rfl (Or.inl rfl) Qf)
  (Qb (Yf PassesOwn.never rfl (Xn (pv 1)) (Qft rfl (Jh (Qx (i:=4) scSumRow.nd rfl (Or.inl rfl) (Or.inl rfl)) (Jh (Qx (i:=5) scSumRow.nd rfl (Or.inr rfl) (Or.inl rfl)) Qbk))) (Qb (Zx (i:=2) ["number","more","many"] [none,none,some 5] rfl scSumRow.nd rfl (Or.inl rfl) (Qax true false rfl M.zip_ (Qa (pv 2) (Qa (Qo Qu (pv 4) Qf (fun _ _=>rfl)) Qe))) (fun _ _ _=>(Yu (K:=K) (i:=0) (j:=1) rfl rfl (show(["number","more","many"]:List Str).Nodup by decide +kernel) rfl rfl rfl rfl)) (fun _ _ _=>Xy) (fun _ _ _=>(Qn Yi (pv 0) (Qn Xu (pv 2) (pv 1)))))
  (Qi (Qpm (i:=3) scSumRow.nd rfl (Or.inl rfl) (Qn Xu (pv 5) (Qo Qu (pv 4) Qf (fun _ _=>rfl))) Qar))))
  (Qi (Qs (Xk (Qa (Qz Xe rfl M.tuple_ Yh (Qa (pv 2) Qe)) (Qa (pv 3) Qe)))))))),?_⟩
 have hz:(1000:Nat)<sizeLine:=Dc
 obtain⟨hlen,hget⟩:=id hps
 refine⟨by show 1<=sizeLine;decide,fun p0 hp0=>?_⟩
 refine⟨_,rfl,p0,(n:Int),_,rfl,rfl,Qc,Om,Om,by show 1*((n:Int)).toNat<=sizeLine;lia,fun g0 hg0=>?_⟩
 have e0:(List.replicate ((n:Int)).toNat [V.int 0]).flatten=(List.replicate n (0:Int)).map V.int:=rep0 n
 rw[e0]
 have s0:Same H (upd (upd H p0 (.lst [.int 0])) g0 (.lst ((List.replicate n (0:Int)).map V.int))):=(Qd hp0 _).trans (Qd hg0 _)
 let Pv14:Nat->St->Hp->Prop:=fun i σ H1=>∃(g:Addr) (u v:Option V),σ=[some (.int (n:Int)),some (.ref l),some (.ref g),some (.int (Yg n (ps.take i)).2),u,v]/\H1 g=some (.lst ((Yg n (ps.take i)).1.map V.int))/\Same H H1
 refine⟨_,rfl,l,rfl,⟨_,s0.seq hl⟩,Ym (K:=K) (a:=l) (xs:=us) Pv14 ⟨g0,none,none,rfl,Qc,s0⟩ (fun i σ H1 _ h=>?_) ?_ ?_⟩
 .obtain⟨g,u,v,rfl,hg,s1⟩:=h
  exact s1.seq hl
 .rintro i x σ H1 e1 ⟨g,u,v,rfl,hg,s1⟩
  have hi:i<us.length:=(jW.mp e1).1
  obtain⟨p,ep⟩:∃p,ps[i]?=some p:=⟨_,gE Om⟩
  obtain⟨T,t,rfl,hT,q1,r1,r2⟩:=hget i x p e1 ep
  obtain⟨hb1,hb2,hb3⟩:=hps2 p (yQ ep)
  have eS:=Qff n ep
  have lA:(Yg n (ps.take i)).1.length=n:=Jm n _ fun p' hp'=>(hps2 p' (kZb hp')).1
  generalize Yg n (ps.take i)=acc at hg eS lA⊢
  refine⟨T,_,rfl,s1.tup hT,rfl,_,_,rfl,_,_,rfl,rfl,?_⟩
  refine⟨_,rfl,_,rfl,t,_,_,_,rfl,rfl,s1.tup r1,at0,g,q1,rfl,⟨_,Qh hg⟩,⟨_,s1.tup r2⟩,fun D hD=>?_⟩
  let Pv15:Nat->St->List V->Hp->Prop:=fun k τ ys H2=>∃a b:Option V,τ=[a,b,some (.int p.2)]/\ys=((List.zipWith (fun x y=>x+p.2*y) acc.1 p.1.1).take k).map V.int/\H2 D=some (.lst ys)/\Same H1 H2
  refine Kk (n:=n) Pv15 ?_ (fun k τ ys H2 hk h=>?_) (fun k τ ys H2 hk h=>?_) (fun τ ys H2 h=>?_) ?_ ?_
  .exact⟨none,none,rfl,rfl,Qc,Qd hD _⟩
  .obtain⟨a,b,rfl,rfl,hD2,s2⟩:=h
   exact⟨hD2,by rw[jQ,xJ];lia⟩
  .obtain⟨a,b,rfl,rfl,hD2,s2⟩:=h
   have k1:k<acc.1.length:=Om
   have k2:k<p.1.1.length:=Om
   exact⟨_,_,.int acc.1[k],.int p.1.1[k],s2.seq (Qh hg),(s1.trans s2).tup r2,by rw[jJ,gE k1];rfl,by rw[jJ,gE k2];rfl⟩
  .obtain⟨a,b,rfl,rfl,hD2,s2⟩:=h
   exact⟨_,_,s2.seq (Qh hg),(s1.trans s2).tup r2,by rw[jQ,jQ];lia⟩
  .rintro k τ ys H2 x' H3 hk ⟨a,b,rfl,rfl,hD2,s2⟩ ⟨T2,x1,y1,rfl,hT2,rfl,e3,e4⟩
   obtain⟨m1,em1,rfl⟩:=Qaa (e3 _ (s2.seq (Qh hg)))
   obtain⟨m2,em2,rfl⟩:=Qaa (e4 _ ((s1.trans s2).tup r2))
   refine⟨T2,_,rfl,Qy Qc,rfl,_,_,rfl,_,_,rfl,rfl,?_⟩
   refine⟨_,rfl,_,rfl,_,rfl,_,_,rfl,rfl,.inl ⟨hb2,hb3⟩,_,_,rfl,rfl,?_,_,_,rfl,?_,Qc,fun b' o e=>?_⟩
   .rw[Qj (Qk hD2 hT2)];exact hD2
   .rw[Qcd (Qsn em1 em2),yK];rfl
   .rw[Qj (Qk e hD),Qj (Qk (s2 _ _ e) hT2)];exact s2 _ _ e
  .rintro τ ys H2 ⟨a,b,rfl,rfl,hD2,s2⟩
   rw[jXc (by rw[kZe];lia)]at hD2
   refine⟨_,rfl,_,rfl,_,rfl,t,_,_,_,rfl,rfl,(s1.trans s2).tup r1,at1,_,_,rfl,rfl,.inl ⟨hb2,hb3⟩,_,_,rfl,rfl,D,some (.ref t),some (.int p.2),?_,?_,s1.trans s2⟩
   .rw[eS];rfl
   .rw[eS];exact hD2
 .rintro σ H1 ⟨g,u,v,rfl,hg,s1⟩
  have eT:ps.take us.length=ps:=by rw[hlen,wY]
  rw[eT]at hg⊢
  refine⟨_,rfl,_,_,rfl,.inl ⟨Qh hg,fun l2 hl2=>?_⟩⟩
  refine⟨_,rfl,by show 2<=sizeLine;decide,fun t ht=>?_⟩
  have nt:l2≠t:=Qk Qc ht
  exact q t _ ((s1.trans (Qd hl2 _)).trans (Qd ht _)) ⟨l2,Qy Qc,Qy (by rw[Qj nt];exact Qc)⟩
abbrev Qlr:Stmt:=top 14
def Qhp(o:Option V)(n:Int):Int:=match o with
 |none=>if 0<n then n else 0
 |some (.int z)=>z*n
 |some _=>0
def Vu(d:List (Key×V))(ns:List Int)(i:Nat):Int:=((List.range i).map fun j=>Qhp (valV d (Sum.inl ((j:Nat):Int))) (ns.getD j 0)).sum
theorem Qfg(d:List (Key×V)){ns:List Int}{i:Nat}{n:Int}(e:ns[i]?=some n):Vu d ns (i+1)=Vu d ns i+Qhp (valV d (Sum.inl ((i:Nat):Int))) n:=by
 unfold Vu
 have eg:ns.getD i 0=n:=by rw[jZ,e];rfl
 rw[jJb,yK,kZc,yX,jYb,jJc,List.sum_nil,eg]
 lia
def Qls(d:List (Key×V)):Prop:=∀k,valV d k=none\/valV d k=some (.int 0)\/valV d k=some (.int 1)
def dOf(hs:List (Int×Int)):List (Key×V):=Yw (hs.map fun p=>(p.1,V.int p.2))
theorem Qfh(hs:List (Int×Int))(hw:∀p∈hs,p.2=0\/p.2=1):∀d:List (Key×V),Qls d->Qls ((hs.map fun p=>(p.1,V.int p.2)).foldl (fun d p=>putK d (Sum.inl p.1) p.2) d):=by
 induction hs with
 |nil=>intro d h;exact h
 |cons p r ih=>
  intro d h
  refine ih (fun q hq=>hw q (yZ _ hq)) _ fun k=>?_
  rw[Kc]
  by_cases e:k=Sum.inl p.1
  .rw[if_pos e]
   rcases hw p (yV ..)with z | z
   .exact .inr (.inl (congrArg (fun y=>some (V.int y)) z))
   .exact .inr (.inr (congrArg (fun y=>some (V.int y)) z))
  .rw[if_neg e];exact h k
theorem Qlt{hs:List (Int×Int)}(hw:∀p∈hs,p.2=0\/p.2=1):Qls (dOf hs):=Qfh hs hw [] fun _=>.inl rfl
def HoldsAt(K:Fg)(H:Hp)(l:Addr)(hs:List (Int×Int)):Prop:=∃vs,SqL K H l vs/\PairsAre K H vs (hs.map fun p=>(p.1,V.int p.2))
theorem PairsAre.same{K:Fg}{H H':Hp}{vs:List V}{ps:List (Int×V)}(e:Same H H')(h:PairsAre K H vs ps):PairsAre K H' vs ps:=L2.PairsAre.imp (fun _ _ z=>e.tup z) h
theorem PairsAre.upd{K:Fg}{H:Hp}{D:Addr}{ys zs:List V}{vs:List V}{ps:List (Int×V)}(hD:H D=some (.lst ys))(h:PairsAre K H vs ps):PairsAre K (upd H D (.lst zs)) vs ps:=L2.PairsAre.imp (fun _ _ z=>Yx hD z) h
theorem HoldsAt.same{K:Fg}{H H':Hp}{l:Addr}{hs:List (Int×Int)}(e:Same H H')(h:HoldsAt K H l hs):HoldsAt K H' l hs:=by obtain⟨vs,h1,h2⟩:=h;exact⟨vs,e.seq h1,PairsAre.same e h2⟩
theorem Qec{K:Fg}{H:Hp}{vs ws:List V}{ps qs:List (Int×V)}(h1:PairsAre K H vs ps)(h2:PairsAre K H ws qs):PairsAre K H (vs++ws) (ps++qs):=by
 unfold PairsAre at *
 induction h1 with
 |nil=>exact h2
 |cons a b ih=>exact .cons a ih
theorem Vj{K:Fg}{H:Hp}{vs:List V}{ps:List (Int×V)}(h:PairsAre K H vs ps):∀k,PairsAre K H (vs.take k) (ps.take k)/\PairsAre K H (vs.drop k) (ps.drop k):=by
 unfold PairsAre at *
 induction h with
 |nil=>intro k;cases k<;>exact⟨.nil,.nil⟩
 |cons a b ih=>
  intro k
  cases k with
  |zero=>exact⟨.nil,.cons a b⟩
  |succ k=>exact⟨.cons a (ih k).1,(ih k).2⟩
theorem Qlu{K:Fg}{H:Hp}{t:Addr}{x:Int}{v:V}(h:SqT K H t [.int x,v]):PairsAre K H [.ref t] [(x,v)]:=.cons ⟨t,rfl,h⟩ .nil
theorem Qlv{K:Fg}{H:Hp}{vs:List V}{ps:List (Int×V)}{t:Addr}{x:Int}{v:V}(h:PairsAre K H vs ps)(ht:SqT K H t [.int x,v])(k:Nat):PairsAre K H (insV vs k (.ref t)) (ps.take k++(x,v)::ps.drop k) :=
 Qec (Vj h k).1 (Qec (Qlu ht) (Vj h k).2)
def Qlw(p:Int×Int):D:=.tup [.int p.1,.int p.2]
theorem HoldsAt.hasD{K:Fg}{H:Hp}{l:Addr}{hs:List (Int×Int)}(h:HoldsAt K H l hs):HasD K H (.ref l) (.lst (hs.map Qlw)):=by
 obtain⟨vs,h1,h2⟩:=h
 refine .lst h1 (by rw[h2.length,jQ,jQ]) fun i v x e1 e2=>?_
 obtain⟨t,p,rfl,ep,ht⟩:=h2.get e1
 rw[jJ]at ep e2
 cases e:hs[i]? with
 |none=>rw[e]at ep;cases ep
 |some q=>
  rw[e]at ep e2
  cases ep
  cases e2
  exact pairD ht (.int _) (.int _)
theorem Vk{n:Nat}(hs gs:List (Int×Int)):Alike (n+2) (.lst (hs.map Qlw)) (.lst (gs.map Qlw)):=by
 refine .lst fun i x y e1 e2=>?_
 rw[jJ]at e1 e2
 obtain⟨a,_,rfl⟩:=xV.mp e1
 obtain⟨b,_,rfl⟩:=xV.mp e2
 exact Va (.int _ _) (.int _ _)
inductive Qqd(K:Fg)(vs:List V)(H:Hp)(Q:VK)(E:XK):Prop|mk(t l:Addr)(r:List Int×Int)(hs:List (Int×Int))(_:vs=[.ref t,.ref l])(_:RowAt K H t r)(_:HoldsAt K H l hs)(_:hs.length<=1000)(_:(∀p∈hs,p.2=0\/p.2=1))(_:∀H',Same H H'->Q (.int (Vu (dOf hs) r.1 r.1.length)) H'):Qqd K vs H Q E
theorem scMost:FnScope ["row","holds","held","most","choice","number","worth"] ["row","holds"] (Qg Qlr):=⟨rfl,rfl,rfl,Dk,rfl,Dk,Dk⟩
theorem okMost(F:Fn K mg "most_of" Qlr)(M:Mg mg):Cal P w K mg base 1 "most_of" ["row","holds"] (Qqd K):=by
 refine Xt F scMost (fun _ _ _ _ _ _=>Zo (fun _ _=>rfl)) (fun vs H Q E h=>?_) (fun f cdv A outer s H vs Q E hr h=>?_)
 .obtain⟨t,l,r,hs,rfl,_⟩:=h
  rfl
 obtain⟨t,l,r,hs,rfl,⟨p,hr1,hr2⟩,⟨vs,hl,hp⟩,hn,hw,q⟩:=h
 have hu:(A.deeper (PyProof.Rows.envOfC "most_of" (Qg Qlr) s.heap.objs.size f cdv)).units+1<cLine:=zQ (zZ Dc _) hr.un
 refine⟨_,(Qb (Qp (i:=2) scMost.nd rfl (Or.inl rfl) (Qz (Qdu rfl) rfl M.dict_ Qrq (Qa (pv 1) Qe)))
  (Qb (Qp (i:=3) scMost.nd rfl (Or.inl rfl) Qf)
  (Qb (Yf PassesOwn.never rfl (Qcb false rfl M.enumerate_ (Qa (Qo Qu (pv 0) Qf (fun _ _=>rfl)) Qe)) (Yu (K:=K) (i:=4) (j:=5) rfl rfl scMost.nd rfl rfl rfl rfl) (Qb (Qp (i:=6) scMost.nd rfl (Or.inl rfl) (Qnj hu (pv 2) (pv 4) ⟨rfl,rfl,rfl,rfl⟩))
  (Qi (Xi (PW.pt (Wh (Qr Zf (pv 6) Qf (Qt _)) (Kv (PW.pt (Yn (Qr Wl (pv 6) Ye (Qt _)) (Zb (Qr Wk (pv 5) Qf (Qt _)))))))) (Qi (Qpm (i:=3) scMost.nd rfl (Or.inl rfl) (pv 5) Qar)) Qv))))
  (Qi (Qs (pv 3)))))),?_⟩
 refine Qnr ?_
 intro rT4 rT3 rT2
 have hz:(1000:Nat)<sizeLine:=Dc
 refine⟨_,rfl,l,vs,_,rfl,hl,hp,by rw[jQ];lia,fun d hd=>?_⟩
 have s1:Same H (upd H d (.dK (dOf hs))):=Qd hd _
 let Pv16:Nat->St->Hp->Prop:=fun i σ H1=>∃u v x:Option V,σ=[some (.ref t),some (.ref l),some (.ref d),some (.int (Vu (dOf hs) r.1 i)),u,v,x]/\H1 d=some (.dK (dOf hs))/\Same H H1
 refine⟨_,rfl,t,_,_,_,rfl,rfl,s1.tup hr1,at0,p,rfl,⟨_,s1.tup hr2⟩,Qcc (K:=K) (m:=false) (a:=p) (xs:=r.1.map V.int) Pv16 ⟨none,none,none,rfl,Qc,s1⟩ (fun i σ H1 _ h=>?_) ?_ ?_⟩
 .obtain⟨u,v,x,rfl,hd1,s2⟩:=h
  exact s2.tup hr2
 .rintro i x σ H1 T e1 ⟨u,v,y,rfl,hd1,s2⟩ hT
  obtain⟨n,en,rfl⟩:=Qaa e1
  have hd2:upd H1 T (.tup [.int ((i:Nat):Int),.int n]) d=some (.dK (dOf hs)):=by rw[Qj (Qk hd1 hT)];exact hd1
  have s3:=s2.trans (Qd hT (.tup [.int ((i:Nat):Int),.int n]))
  have em:=Qfg (dOf hs) en
  refine⟨T,_,rfl,Qy Qc,rfl,_,_,rfl,_,_,rfl,rfl,?_⟩
  refine⟨_,rfl,d,rfl,.inl ⟨_,.inl hd2⟩,_,rfl,_,DGet.k (k:=Sum.inl ((i:Nat):Int)) hd2,?_⟩
  rcases Qlt hw (Sum.inl ((i:Nat):Int))with e | e | e
  .rw[e]at em⊢
   refine⟨_,rfl,rfl,_,rfl,iteF ⟨_,rfl,rfl,_,rfl,iteT ⟨_,rfl,_,_,rfl,rfl,_,rfl,ite2 (fun c=>?_) (fun c=>?_)⟩⟩⟩
   .have c':0<n:=kK c
    refine⟨_,rfl,_,rfl,_,_,rfl,rfl,some (.int ((i:Nat):Int)),some (.int n),some .non,?_,hd2,s3⟩
    rw[em,show Qhp none n=n from if_pos c']
    rfl
   .have c':¬0<n:=fun z=>c (kW z)
    refine⟨some (.int ((i:Nat):Int)),some (.int n),some .non,?_,hd2,s3⟩
    rw[em,show Qhp none n=0 from if_neg c',wJ]
    rfl
  .rw[e]at em⊢
   refine⟨_,rfl,rfl,_,rfl,iteF ⟨_,rfl,rfl,_,rfl,iteF (iteF ?_)⟩⟩
   refine⟨some (.int ((i:Nat):Int)),some (.int n),some (.int 0),?_,hd2,s3⟩
   rw[em,show Qhp (some (.int 0)) n=0 from wQ n,wJ]
   rfl
  .rw[e]at em⊢
   refine⟨_,rfl,rfl,_,rfl,iteT (iteT ?_)⟩
   refine⟨_,rfl,_,rfl,_,_,rfl,rfl,some (.int ((i:Nat):Int)),some (.int n),some (.int 1),?_,hd2,s3⟩
   rw[em,show Qhp (some (.int 1)) n=n from jQa n]
   rfl
 .rintro σ H1 ⟨u,v,y,rfl,hd1,s2⟩
  rw[jQ]
  exact⟨_,rfl,q H1 s2⟩
def addF(o:Option Int)(x:Int):Int:=match o with
 |none=>if 0<x then x else 0
 |some w=>w*x
def hv(hs:List (Int×Int))(j:Nat):Option Int:=(hs.find? fun p=>p.1 == (j:Int)).map (·.2)
def setF(f:Nat->Option Int)(c:Nat)(w:Int):Nat->Option Int:=fun j=>if j=c then some w else f j
def sumN(n:Nat)(g:Nat->Int):Int:=((List.range n).map g).sum
theorem Qag(n:Nat)(g:Nat->Int):sumN (n+1) g=sumN n g+g n:=by
 unfold sumN
 rw[jJb,yK,kZc,yX,jYb,jJc,List.sum_nil]
 lia
theorem Vm{n:Nat}{g h:Nat->Int}(e:∀j,j<n->g j=h j):sumN n g=sumN n h:=by
 unfold sumN
 exact congrArg List.sum (xZ fun j hj=>e j (xX.mp hj))
theorem Qhq{n c:Nat}{g h:Nat->Int}(hc:c<n)(e:∀j,j≠c->g j=h j):sumN n g=sumN n h+(g c-h c):=by
 induction n with
 |zero=>lia
 |succ n ih=>
  rw[Qag,Qag]
  by_cases hn:c<n
  .rw[ih hn,e n Om];lia
  .have:c=n:=Om
   subst this
   rw[Vm (g:=g) (h:=h) fun j hj=>e j Om]
   lia
theorem sum_filter(p:Nat->Bool)(g:Nat->Int)(n:Nat):(((List.range n).filter p).map g).sum=sumN n fun k=>if p k=true then g k else 0:=by
 induction n with
 |zero=>rfl
 |succ n ih=>
  rw[Qag,jJb,List.filter_append,yK,kZc,ih]
  by_cases h:p n=true
  .rw[if_pos h,kYa h];simp
  .rw[if_neg h,kYb h];simp
def roomF(n:Nat)(f:Nat->Option Int)(r:List Int×Int):Int:=sumN n (fun j=>addF (f j) (r.1.getD j 0))-r.2
theorem Qlx{n:Nat}{f:Nat->Option Int}{r:List Int×Int}{c:Nat}{w:Int}(hc:c<n)(hf:f c=none):roomF n (setF f c w) r=roomF n f r+(w*r.1.getD c 0-addF none (r.1.getD c 0)):=by
 unfold roomF
 rw[Qhq (n:=n) (c:=c) (g:=fun j=>addF (setF f c w j) (r.1.getD j 0)) (h:=fun j=>addF (f j) (r.1.getD j 0)) hc fun j hj=>by simp only[setF,if_neg hj]]
 simp only[setF,if_true,hf]
 show _+(w*r.1.getD c 0-addF none (r.1.getD c 0))-r.2=_
 lia
structure Good(n:Nat)(hs:List (Int×Int)):Prop where
 nd:(hs.map (·.1)).Nodup
 ok:∀p∈hs,0<=p.1/\p.1<(n:Int)/\(p.2=0\/p.2=1)
theorem Vn(p:Int×Int)(t:List (Int×Int))(j:Nat):hv (p::t) j=if p.1=(j:Int)then some p.2 else hv t j:=by
 unfold hv
 rw[jKb]
 by_cases h:p.1=(j:Int)
 .rw[if_pos h,show(p.1 == (j:Int))=true from beq_iff_eq.mpr h];rfl
 .rw[if_neg h,show(p.1 == (j:Int))=false from beq_eq_false_iff_ne.mpr h]
theorem hv_none{hs:List (Int×Int)}{j:Nat}:hv hs j=none↔(j:Int)∉hs.map (·.1):=by
 induction hs with
 |nil=>simp[hv]
 |cons p t ih=>
  rw[Vn]
  by_cases h:p.1=(j:Int)
  .rw[if_pos h];simp[h]
  .rw[if_neg h,ih]
   simp only[yX,kQ,not_or]
   exact⟨fun z=>⟨fun e=>h e.symm,z⟩,fun z=>z.2⟩
theorem Qqe(hs:List (Int×Int))(c:Nat)(w:Int)(h:hv hs c=none):hv (hs++[((c:Int),w)])=setF (hv hs) c w:=by
 funext j
 induction hs with
 |nil=>
  show hv [((c:Int),w)] j=_
  rw[Vn]
  unfold setF
  by_cases e:j=c
  .rw[if_pos e,if_pos (by rw[e])]
  .rw[if_neg e,if_neg (by show ¬(c:Int)=(j:Int);lia)]
 |cons p t ih=>
  rw[Vn]at h
  rw[List.cons_append,Vn]
  by_cases hp:p.1=(c:Int)
  .rw[if_pos hp]at h;cases h
  rw[if_neg hp]at h
  unfold setF at ih⊢
  rw[ih h,Vn]
  by_cases e:j=c
  .rw[if_pos e,if_pos e,if_neg (by rw[e];exact hp)]
  .rw[if_neg e,if_neg e]
theorem Qgo{K:Fg}{H:Hp}{D a:Addr}{o o':HO}{xs:List V}(hD:H D=some o)(n1:∀ys,o≠.tup ys)(n2:∀p q,o≠.frz p q)(h:SqT K H a xs):SqT K (upd H D o') a xs:=by
 rcases h with(h | ⟨p,h⟩) | h
 .exact .inl (.inl (by rw[Qj (Yl h hD (fun z=>n1 _ z.symm))];exact h))
 .exact .inl (.inr ⟨p,by rw[Qj (Yl h hD (fun z=>n2 _ _ z.symm))];exact h⟩)
 .exact .inr h
theorem Qly(hs:List (Int×Int)):∀(d:List (Key×V)),(hs.map (·.1)).Nodup->∀j:Nat,valV ((hs.map fun p=>(p.1,V.int p.2)).foldl (fun d p=>putK d (Sum.inl p.1) p.2) d) (Sum.inl (j:Int))=match hv hs j with | some w=>some (.int w) | none=>valV d (Sum.inl (j:Int)):=by
 induction hs with
 |nil=>intro d _ j;rfl
 |cons p t ih=>
  intro d h j
  have hnd:=kJ.mp (show(p.1::t.map (·.1)).Nodup from h)
  show valV ((t.map fun p=>(p.1,V.int p.2)).foldl (fun d p=>putK d (Sum.inl p.1) p.2) (putK d (Sum.inl p.1) (V.int p.2))) (Sum.inl (j:Int))=_
  rw[ih _ hnd.2 j,Vn]
  by_cases e:p.1=(j:Int)
  .rw[if_pos e]
   have:hv t j=none:=hv_none.mpr (by rw[<-e];exact hnd.1)
   rw[this]
   show valV (putK d (Sum.inl p.1) (V.int p.2)) (Sum.inl (j:Int))=some (.int p.2)
   rw[Kc,if_pos (by rw[e])]
  .rw[if_neg e]
   cases hv t j with
   |some w=>rfl
   |none=>
    show valV (putK d (Sum.inl p.1) (V.int p.2)) (Sum.inl (j:Int))=valV d (Sum.inl (j:Int))
    rw[Kc,if_neg (fun z=>e (Sum.inl.inj z).symm)]
theorem Qoq{hs:List (Int×Int)}(h:(hs.map (·.1)).Nodup)(j:Nat):valV (dOf hs) (Sum.inl (j:Int))=(hv hs j).map V.int:=by
 have:=Qly hs [] h j
 unfold dOf Yw
 rw[this]
 cases hv hs j<;>rfl
theorem Qlz{n:Nat}{hs:List (Int×Int)}{r:List Int×Int}(h:Good n hs)(hr:r.1.length=n):Vu (dOf hs) r.1 r.1.length-r.2=roomF n (hv hs) r:=by
 unfold roomF Vu
 rw[hr]
 congr 1
 refine Vm fun j _=>?_
 rw[Qoq h.nd]
 cases hv hs j<;>rfl
abbrev Kg:Stmt:=top 2
abbrev Qgp:Stmt:=top 3
def Za(cs:List Int)(b:Int):List Int×Int:=(cs.map fun c=>-c,1-b)
theorem Qcq{K:Fg}{H:Hp}{l t:Addr}{ns:List Int}{z:Int}(h:upd H l (.tup (ns.map V.int)) t=none):RowAt K (upd (upd H l (.tup (ns.map V.int))) t (.tup [.ref l,.int z])) t (ns,z):=⟨l,Qy Qc,Qy (by rw[Qj (Qk Qc h)];exact Qc)⟩
inductive Qgq(K:Fg)(vs:List V)(H:Hp)(Q:VK)(E:XK):Prop|mk(t:Addr)(rs:List (List Int×Int))(cs:List Int)(b:Int)(_:vs=[.ref t,.int b])(_:ProbAt K H t rs cs)(_:cs.length<=1000)(_:∀t' H',Same H H'->RowAt K H' t' (Za cs b)->Q (.ref t') H'):Qgq K vs H Q E
def ProbL(K:Fg)(H:Hp)(t l:Addr)(rs:List (List Int×Int))(cs:List Int):Prop:=∃c vs,SqT K H t [.ref l,.ref c]/\H l=some (.lst vs)/\RowsAre K H vs rs/\SqT K H c (cs.map V.int)
theorem ProbL.same{K:Fg}{H H':Hp}{t l:Addr}{rs:List (List Int×Int)}{cs:List Int}(h:ProbL K H t l rs cs)(e:Same H H'):ProbL K H' t l rs cs:=by
 obtain⟨c,vs,h1,h2,h3,h4⟩:=h;exact⟨c,vs,e.tup h1,e _ _ h2,h3.imp fun _ _ z=>z.same e,e.tup h4⟩
def Yb(rs:List (List Int×Int))(cs:List Int):Option Int->List (List Int×Int)
 |none=>rs
 |some b=>rs++[Za cs b]
def Vp:Option Int->V
 |none=>.non
 |some b=>.int b
inductive Qma(K:Fg)(vs:List V)(H:Hp)(Q:VK)(E:XK):Prop|mk(t l:Addr)(rs:List (List Int×Int))(cs:List Int)(o:Option Int)(_:vs=[.ref t,Vp o])(_:ProbL K H t l rs cs)(_:cs.length<=1000)(_:rs.length<=1000)(_:∀a us H',Same H H'->H a=none->H' a=some (.lst us)->RowsAre K H' us (Yb rs cs o)->Q (.ref a) H'):Qma K vs H Q E
theorem Qfi:FnScope ["problem","best"] ["problem","best"] (Qg Kg):=⟨rfl,rfl,rfl,Dk,rfl,Dk,Dk⟩
theorem Qfj(F:Fn K mg "better_row" Kg)(M:Mg mg):Cal P w K mg base 1 "better_row" ["problem","best"] (Qgq K):=by
 refine Xt F Qfi (fun _ _ _ _ _ _=>Zo (fun _ _=>rfl)) (fun vs H Q E h=>?_) (fun f cdv A outer s H vs Q E hr h=>?_)
 .obtain⟨t,rs,cs,b,rfl,_⟩:=h
  rfl
 obtain⟨t,rs,cs,b,rfl,⟨l,c,us,ht,hl,hrw,hc⟩,hn,q⟩:=h
 refine⟨_,(Qi (Qs (Xk (Qa (Qz Xe rfl M.tuple_ Yh (Qa (Zm ["cost"] [none] rfl (Ki (Qo Qu (pv 0) Qf (fun _ _=>rfl))) (fun _ _ _=>(Qx (i:=0) (show(["cost"]:List Str).Nodup by decide +kernel) rfl (Or.inl rfl) (Or.inr rfl))) (fun _ _ _=>Xy) (fun _ _ _=>(Ze Ya (pv 0)))) Qe)) (Qa (Qn Xs Qf (pv 1)) Qe))))),?_⟩
 have hz:(1000:Nat)<sizeLine:=Dc
 refine⟨_,rfl,t,_,_,_,rfl,rfl,ht,at1,c,rfl,⟨_,hc⟩,fun D hD=>?_⟩
 let Pv17:Nat->St->List V->Hp->Prop:=fun i τ ys H1=>∃v:Option V,τ=[v]/\ys=((cs.map fun c=>-c).take i).map V.int/\H1 D=some (.lst ys)/\Same H H1
 refine Kk (n:=cs.length) Pv17 ?_ (fun i τ ys H1 hi h=>?_) (fun i τ ys H1 hi h=>?_) (fun τ ys H1 h=>?_) ?_ ?_
 .exact⟨none,rfl,rfl,Qc,Qd hD _⟩
 .obtain⟨v,rfl,rfl,hE,s1⟩:=h
  exact⟨hE,by rw[jQ,xJ];lia⟩
 .obtain⟨v,rfl,rfl,hE,s1⟩:=h
  exact⟨_,.int cs[i],s1.tup hc,by rw[jJ,gE hi];rfl⟩
 .obtain⟨v,rfl,rfl,hE,s1⟩:=h
  exact⟨_,s1.tup hc,by rw[jQ];exact jY _⟩
 .rintro i τ ys H1 x H2 hi ⟨v,rfl,rfl,hE,s1⟩ ⟨rfl,e1⟩
  obtain⟨z,ez,rfl⟩:=Qaa (e1 _ (s1.tup hc))
  refine⟨_,rfl,_,rfl,hE,_,rfl,?_,Qc,fun b' o e=>?_⟩
  .rw[Qcd (show(cs.map fun c=>-c)[i]?=some (-z)by rw[jJ,ez];rfl),yK];rfl
  .rw[Qj (Qk e hD)];exact s1 _ _ e
 .rintro τ ys H1 ⟨v,rfl,rfl,hE,s1⟩
  rw[jXc (by rw[jQ];exact jY _)]at hE
  refine⟨D,_,rfl,.inl ⟨Qh hE,fun l2 hl2=>⟨_,rfl,_,_,rfl,rfl,by show 2<=sizeLine;decide,fun t2 ht2=>?_⟩⟩⟩
  exact q t2 _ ((s1.trans (Qd hl2 _)).trans (Qd ht2 _)) (Qcq ht2)
theorem Qso:FnScope ["problem","best"] ["problem","best"] (Qg Qgp):=⟨rfl,rfl,rfl,Dk,rfl,Dk,Dk⟩
theorem Qsp(F:Fn K mg "rows_below" Qgp)(M:Mg mg)(c_better_row:Cal P w K mg base 1 "better_row" ["problem","best"] (Qgq K)):Cal P w K mg base 2 "rows_below" ["problem","best"] (Qma K):=by
 refine Xt F Qso (fun _ _ _ _ _ _=>Zo (fun _ _=>rfl)) (fun vs H Q E h=>?_) (fun f cdv A outer s H vs Q E hr h=>?_)
 .obtain⟨t,l,rs,cs,o,rfl,_⟩:=h
  rfl
 obtain⟨t,l,rs,cs,o,rfl,⟨c,vs,ht,hl,hrw,hc⟩,hn,hm,q⟩:=h
 refine⟨_,(Qb (Xi (Qr Wl (pv 1) Ye (Qt _)) (Qi (Qs (Qz Xv rfl M.list_ Yv (Qa (Qo Qu (pv 0) Qf (fun _ _=>rfl)) Qe)))) Qv)
  (Qi (Qs (Qn Qav (Qo Qu (pv 0) Qf (fun _ _=>rfl)) (Xz (Qa (Xh c_better_row (hr.mono Dc) (Qa (pv 0) (Qa (pv 1) Qe))) Qe)))))),?_⟩
 have hz:(100000:Nat)<sizeLine:=Dc
 have lr:=hrw.length
 have up:∀{Hz:Hp} {g:Addr},Hz g=none->Same H Hz->H g=none:=fun{Hz g} h s=>by
  cases e5:H g with
  |none=>rfl
  |some o=>rw[s _ _ e5]at h;cases h
 cases o with
 |none=>
  refine⟨_,rfl,rfl,_,rfl,iteT ⟨_,rfl,t,_,_,_,rfl,rfl,ht,at0,l,_,rfl,.inl (Qh hl),fun a fa=>?_⟩⟩
  exact q a vs _ (Qd fa _) fa Qc (hrw.imp fun _ _ z=>z.same (Qd fa _))
 |some b=>
  refine⟨_,rfl,rfl,_,rfl,iteF ⟨_,rfl,t,_,_,_,rfl,rfl,ht,at0,_,rfl,_,rfl,t,rs,cs,b,rfl,⟨l,c,vs,ht,Qh hl,hrw,hc⟩,hn,fun t' H' s1 hr'=>?_⟩⟩
  refine⟨by show 1<=sizeLine;decide,fun B hB=>?_⟩
  have s2:=Qd hB (.lst [.ref t'])
  refine⟨l,B,_,_,rfl,rfl,s2 _ _ (s1 _ _ hl),Qc,by show vs.length+1<=sizeLine;lia,fun a fa=>?_⟩
  have s3:=Qd fa (.lst (vs++[.ref t']))
  have s123:=(s1.trans s2).trans s3
  exact q a _ _ s123 (up fa (s1.trans s2)) Qc (RowsAre.snoc (hrw.imp fun _ _ z=>z.same s123) (hr'.same (s2.trans s3)))
abbrev Qah:Stmt:=inClass (top 5) 0
abbrev Qed:Stmt:=inClass (top 5) 1
abbrev Qai:Stmt:=inClass (top 5) 2
theorem n_lr:¬(("rows":Str)="lines"):=Dk
theorem n_pr:¬(("rows":Str)="places"):=Dk
theorem n_pl:¬(("lines":Str)="places"):=Dk
def shF(m:Int)(L D:Addr):List (Str×V):=putF "places" (.ref D) (putF "lines" (.ref L) (putF "rows" (.int m) []))
theorem shF2(m:Int)(L:Addr):putF "lines" (.ref L) (putF "rows" (.int m) [])=([("rows",V.int m),("lines",V.ref L)]:List (Str×V)):=by
 show(if ("rows":Str)="lines" then[(("rows":Str),V.ref L)]else(("rows":Str),V.int m)::putF "lines" (V.ref L) [])=_
 rw[if_neg n_lr]
 rfl
theorem Qor(m:Int)(L D:Addr):(shF m L D).lookup ("rows":Str)=some (.int m):=by unfold shF;rw[Xr,if_neg n_pr,Xr,if_neg n_lr,Xr,if_pos rfl]
theorem Qaj(m:Int)(L D:Addr):(shF m L D).lookup ("lines":Str)=some (.ref L):=by unfold shF;rw[Xr,if_neg n_pl,Xr,if_pos rfl]
theorem Zu(m:Int)(L D:Addr):(shF m L D).lookup ("places":Str)=some (.ref D):=by unfold shF;rw[Xr,if_pos rfl]
theorem Qee(m:Int)(L D:Addr){x:Str}(h1:¬x="places")(h2:¬x="lines")(h3:¬x="rows"):(shF m L D).lookup x=none:=by
 unfold shF;rw[Xr,if_neg h1,Xr,if_neg h2,Xr,if_neg h3];rfl
structure ShAt(C:Addr)(H:Hp)(p L D:Addr)(m:Int)(us:List V)(kvs:List (Key×V)):Prop where
 ob:∃dx,H p=some (.ins C dx (shF m L D))
 ln:H L=some (.lst us)
 pl:H D=some (.dK kvs)
theorem ShAt.same{C:Addr}{H H':Hp}{p L D:Addr}{m:Int}{us:List V}{kvs:List (Key×V)}(h:ShAt C H p L D m us kvs)(e:Same H H'):ShAt C H' p L D m us kvs:=by
 obtain⟨⟨dx,h1⟩,h2,h3⟩:=h
 exact⟨⟨dx,e _ _ h1⟩,e _ _ h2,e _ _ h3⟩
inductive Qmb(C:Addr)(vs:List V)(H:Hp)(Q:VK)(E:XK):Prop|mk(p dx:Addr)(m:Int)(_:vs=[.ref p,.int m])(_:H p=some (.ins C dx []))(_:∀(L D:Addr) (H':Hp),H L=none->H D=none->ShAt C H' p L D m [] []->(∀b o,H b=some o->b≠p->H' b=some o)->Q .non H'):Qmb C vs H Q E
inductive Qmc(C:Addr)(vs:List V)(H:Hp)(Q:VK)(E:XK):Prop|mk(p L D:Addr)(m:Int)(us:List V)(kvs:List (Key×V))(v:V)(_:vs=[.ref p,v])(_:ShAt C H p L D m us kvs)(_:us.length<=1000)(_:Q (.int ((us.length:Nat):Int)) (upd H L (.lst (us++[v])))):Qmc C vs H Q E
def Jz(m k:Int):List V:=if k<m then[.str "given",.int k]else[.str "better"]
inductive Qmd(K:Fg)(C:Addr)(vs:List V)(H:Hp)(Q:VK)(E:XK):Prop|mk(p L D:Addr)(m k:Int)(us:List V)(kvs:List (Key×V))(_:vs=[.ref p,.int k])(_:ShAt C H p L D m us kvs)(_:us.length<=1000)(_:kvs.length<=1000)(_:(∀v,valV kvs (Sum.inl k)=some v->Q v H))(_:(valV kvs (Sum.inl k)=none->∀(t:Addr) (H':Hp),H t=none->SqT K H' t (Jz m k)->ShAt C H' p L D m (us++[.ref t]) (putK kvs (Sum.inl k) (.int ((us.length:Nat):Int)))->(∀b o,H b=some o->b≠L->b≠D->H' b=some o)->Q (.int ((us.length:Nat):Int)) H')):Qmd K C vs H Q E
structure ShTxt(K:Fg)(mg:Str->Option Value)(C:Addr):Prop where
 cl:Cls K C
 nR:NoAttr K C "rows"
 nL:NoAttr K C "lines"
 nP:NoAttr K C "places"
 mgC:mg "Sheet"=some (.ref C)
theorem scShI:FnScope ["self","rows"] ["self","rows"] (Qg Qah):=⟨rfl,rfl,rfl,Dk,rfl,Dk,Dk⟩
theorem okShI{f C:Addr}{fd:FuncData}(F:Fun K "__init__" "Sheet.__init__" Qah f fd)(T:ShTxt K mg C):FnOk P w K mg base CX0 1 f fd ["self","rows"] (Qmb C):=by
 refine F.ok scShI (fun vs H Q E h=>?_) (fun cdv A outer s H vs Q E hr h=>?_)
 .obtain⟨p,dx,m,rfl,_⟩:=h
  rfl
 .obtain⟨p,dx,m,rfl,hp,k⟩:=h
  refine⟨_,Qb (Zp (pv 0) (pv 1) rfl) (Qb (Zp (pv 0) (Xz Qe) rfl) (Qi (Zp (pv 0) Qby rfl))),?_⟩
  refine⟨_,rfl,_,rfl,p,C,dx,[],rfl,hp,T.cl,T.nR,(by show 0<1000;decide),?_⟩
  refine⟨by show 0<=sizeLine;decide,fun L hL=>?_⟩
  have nL:p≠L:=fun z=>by rw[<-z,Qc]at hL;cases hL
  have hL0:H L=none:=by rw[Qj nL.symm]at hL;exact hL
  refine⟨_,rfl,p,C,dx,_,rfl,(by rw[Qj nL];exact Qc),T.cl,T.nL,(by show 1<1000;decide),?_⟩
  intro D hD
  have nD:p≠D:=fun z=>by rw[<-z,Qc]at hD;cases hD
  have nLD:L≠D:=fun z=>by rw[<-z,Qj nL.symm,Qc]at hD;cases hD
  have hD0:H D=none:=by rw[Qj nD.symm,Qj nLD.symm,Qj nD.symm]at hD;exact hD
  refine⟨_,rfl,p,C,dx,_,rfl,(by rw[Qj nD];exact Qc),T.cl,T.nP,(by show(putF "lines" (V.ref L) (putF "rows" (V.int m) [])).length<1000;rw[shF2];show 2<1000;decide),?_⟩
  refine k L D _ hL0 hD0 ⟨⟨dx,Qc⟩,?_,?_⟩ fun b o e hb=>?_
  .rw[Qj nL.symm,Qj nLD,Qj nL.symm,Qc]
  .rw[Qj nD.symm,Qc]
  .rw[Qj hb,Qj (Qk e hD0),Qj hb,Qj (Qk e hL0),Qj hb]
   exact e
theorem scShP:FnScope ["self","line"] ["self","line"] (Qg Qed):=⟨rfl,rfl,rfl,Dk,rfl,Dk,Dk⟩
theorem okShP{f C:Addr}{fd:FuncData}(F:Fun K "put" "Sheet.put" Qed f fd)(M:Mg mg)(T:ShTxt K mg C):FnOk P w K mg base CX0 1 f fd ["self","line"] (Qmc C):=by
 refine F.ok scShP (fun vs H Q E h=>?_) (fun cdv A outer s H vs Q E hr h=>?_)
 .obtain⟨p,L,D,m,us,kvs,v,rfl,_⟩:=h
  rfl
 .obtain⟨p,L,D,m,us,kvs,v,rfl,S,hl,q⟩:=h
  have hz:(100000:Nat)<sizeLine:=Dc
  obtain⟨⟨dx,h1⟩,h2,h3⟩:=id S
  refine⟨_,Qb (Ys (Vw PySem.F.plainAttrs_list PySem.F.slot_list_append PySem.F.type_list_append Yp (Qq (pv 0) rfl) (Qa (pv 1) Qe)))
   (Qi (Qs (Qn Xs (Ql Qm rfl M.len Xl (Qa (Qq (pv 0) rfl) Qe)) Qf))),?_⟩
  refine⟨_,rfl,p,C,dx,_,_,rfl,h1,T.cl,T.nL,Qaj _ _ _,.inl ⟨rfl,_,Qh h2⟩,_,rfl,L,_,_,rfl,rfl,h2,Om,?_⟩
  have npL:p≠L:=Yl h1 h2 (by intro z;cases z)
  refine⟨_,rfl,p,C,dx,_,_,rfl,(by rw[Qj npL];exact h1),T.cl,T.nL,Qaj _ _ _,L,_,rfl,.inl (Qh Qc),_,_,rfl,rfl,?_⟩
  have e:(((us++[v]).length:Nat):Int)-1=((us.length:Nat):Int):=by rw[kZ];show(((us.length+1:Nat)):Int)-1=_;lia
  show Q (.int ((((us++[v]).length:Nat):Int)-1)) _
  rw[e]
  exact q
theorem scShL:FnScope ["self","number","line"] ["self","number"] (Qg Qai):=⟨rfl,rfl,rfl,Dk,rfl,Dk,Dk⟩
theorem okShL{f C fP:Addr}{fd fdP:FuncData}(F:Fun K "line_of" "Sheet.line_of" Qai f fd)(M:Mg mg)(T:ShTxt K mg C)(GP:FnOk P w K mg base CX0 1 fP fdP ["self","line"] (Qmc C))(bP:Binds K fdP ["self","line"] [])(mP:Meth K C "put" fP):FnOk P w K mg base CX0 2 f fd ["self","number"] (Qmd K C):=by
 refine F.ok scShL (fun vs H Q E h=>?_) (fun cdv A outer s H vs Q E hr h=>?_)
 .obtain⟨p,L,D,m,k,us,kvs,rfl,_⟩:=h
  rfl
 .obtain⟨p,L,D,m,k,us,kvs,rfl,S,hl,hk,q1,q2⟩:=h
  have hz:(100000:Nat)<sizeLine:=Dc
  have hu:=hu_of hr
  have hr1:Room 1 _:=hr.mono Dc
  obtain⟨⟨dx,h1⟩,h2,h3⟩:=id S
  have npL:p≠L:=Yl h1 h2 (by intro z;cases z)
  have npD:p≠D:=Yl h1 h3 (by intro z;cases z)
  have nLD:L≠D:=Yl h2 h3 (by intro z;cases z)
  refine⟨_,Qb (Xi (Qiv (Qkb hu (pv 1) (Qq (pv 0) rfl)))
    (Qb (Qp (i:=2) scShL.nd rfl (Or.inl rfl) (Zq (Qr Jo (pv 1) (Qq (pv 0) rfl) (Qt _)) (Xk (Qa Jf (Qa (pv 1) Qe))) (Xk (Qa Jf Qe))))
    (Qi (Qex hu (Qq (pv 0) rfl) (pv 1) (Xf (pv 0) T.cl mP GP hr1 bP .nil Yq (Qa (pv 2) Qe)) rfl))) Qv)
   (Qi (Qs (Jp hu (Qq (pv 0) rfl) (pv 1) (fun _ _=>rfl)))),?_⟩
  refine⟨_,rfl,_,rfl,p,C,dx,_,_,rfl,h1,T.cl,T.nP,Zu _ _ _,D,_,rfl,DGet.k (k:=Sum.inl k) h3,_,rfl,?_⟩
  cases e:valV kvs (Sum.inl k:Key)with
  |some v=>
   have hg:=DGet.k (k:=Sum.inl k) h3
   rw[e]at hg
   exact iteF ⟨_,rfl,p,C,dx,_,_,rfl,h1,T.cl,T.nP,Zu _ _ _,_,rfl,D,v,rfl,hg,q1 v e⟩
  |none=>
   have q3:=q2 e
   refine iteT ⟨_,rfl,_,rfl,p,C,dx,_,_,rfl,h1,T.cl,T.nR,Qor _ _ _,_,_,rfl,rfl,_,rfl,ite2 (fun c=>⟨_,rfl,by show 2<=sizeLine;decide,fun t ht=>?_⟩) (fun c=>⟨by show 1<=sizeLine;decide,fun t ht=>?_⟩)⟩
   .have ex:Jz m k=[V.str "given",V.int k]:=if_pos (kK c)
    rw[<-ex]
    have s1:=Qd ht (.tup (Jz m k))
    have hT:SqT K (upd H t (.tup (Jz m k))) t (Jz m k):=Qy Qc
    generalize upd H t (.tup (Jz m k))=H1 at s1 hT⊢
    refine⟨_,rfl,p,dx,_,rfl,s1 _ _ h1,Qee _ _ _ Dk Dk Dk,_,rfl,p,L,D,m,us,kvs,.ref t,rfl,S.same s1,hl,?_⟩
    have h12:upd H1 L (.lst (us++[.ref t])) p=some (.ins C dx (shF m L D)):=by rw[Qj npL];exact s1 _ _ h1
    have h32:upd H1 L (.lst (us++[.ref t])) D=some (.dK kvs):=by rw[Qj nLD.symm];exact s1 _ _ h3
    refine⟨_,rfl,p,C,dx,_,_,rfl,h12,T.cl,T.nP,Zu _ _ _,_,rfl,D,_,rfl,DPut.k (k:=Sum.inl k) h32 Om,?_⟩
    have h13:upd (upd H1 L (.lst (us++[.ref t]))) D (.dK (putK kvs (Sum.inl k) (.int ((us.length:Nat):Int)))) p=some (.ins C dx (shF m L D)):=by rw[Qj npD];exact h12
    have hgD:DGet (upd (upd H1 L (.lst (us++[.ref t]))) D (.dK (putK kvs (Sum.inl k) (.int ((us.length:Nat):Int))))) D (.int k) (some (.int ((us.length:Nat):Int))):=by
     have:=DGet.k (k:=Sum.inl k) (show upd (upd H1 L (.lst (us++[.ref t]))) D (.dK (putK kvs (Sum.inl k) (.int ((us.length:Nat):Int)))) D=some (.dK (putK kvs (Sum.inl k) (.int ((us.length:Nat):Int))))from Qc)
     rw[Kc,if_pos rfl]at this
     exact this
    refine⟨_,rfl,p,C,dx,_,_,rfl,h13,T.cl,T.nP,Zu _ _ _,_,rfl,D,_,rfl,hgD,?_⟩
    refine q3 t _ ht (Qgo h32 (fun _ z=>nomatch z) (fun _ _ z=>nomatch z) (Yx (s1 _ _ h2) hT)) ⟨⟨dx,h13⟩,by rw[Qj nLD,Qc],Qc⟩ fun b o e' hb1 hb2=>?_
    rw[Qj hb2,Qj hb1]
    exact s1 _ _ e'
   .have ex:Jz m k=[V.str "better"]:=if_neg fun z=>c (kW z)
    rw[<-ex]
    have s1:=Qd ht (.tup (Jz m k))
    have hT:SqT K (upd H t (.tup (Jz m k))) t (Jz m k):=Qy Qc
    generalize upd H t (.tup (Jz m k))=H1 at s1 hT⊢
    refine⟨_,rfl,p,dx,_,rfl,s1 _ _ h1,Qee _ _ _ Dk Dk Dk,_,rfl,p,L,D,m,us,kvs,.ref t,rfl,S.same s1,hl,?_⟩
    have h12:upd H1 L (.lst (us++[.ref t])) p=some (.ins C dx (shF m L D)):=by rw[Qj npL];exact s1 _ _ h1
    have h32:upd H1 L (.lst (us++[.ref t])) D=some (.dK kvs):=by rw[Qj nLD.symm];exact s1 _ _ h3
    refine⟨_,rfl,p,C,dx,_,_,rfl,h12,T.cl,T.nP,Zu _ _ _,_,rfl,D,_,rfl,DPut.k (k:=Sum.inl k) h32 Om,?_⟩
    have h13:upd (upd H1 L (.lst (us++[.ref t]))) D (.dK (putK kvs (Sum.inl k) (.int ((us.length:Nat):Int)))) p=some (.ins C dx (shF m L D)):=by rw[Qj npD];exact h12
    have hgD:DGet (upd (upd H1 L (.lst (us++[.ref t]))) D (.dK (putK kvs (Sum.inl k) (.int ((us.length:Nat):Int))))) D (.int k) (some (.int ((us.length:Nat):Int))):=by
     have:=DGet.k (k:=Sum.inl k) (show upd (upd H1 L (.lst (us++[.ref t]))) D (.dK (putK kvs (Sum.inl k) (.int ((us.length:Nat):Int)))) D=some (.dK (putK kvs (Sum.inl k) (.int ((us.length:Nat):Int))))from Qc)
     rw[Kc,if_pos rfl]at this
     exact this
    refine⟨_,rfl,p,C,dx,_,_,rfl,h13,T.cl,T.nP,Zu _ _ _,_,rfl,D,_,rfl,hgD,?_⟩
    refine q3 t _ ht (Qgo h32 (fun _ z=>nomatch z) (fun _ _ z=>nomatch z) (Yx (s1 _ _ h2) hT)) ⟨⟨dx,h13⟩,by rw[Qj nLD,Qc],Qc⟩ fun b o e' hb1 hb2=>?_
    rw[Qj hb2,Qj hb1]
    exact s1 _ _ e'
def shN(hs:List (Int×Int))(j:Nat):Int:=match hv hs j with
 |none=>0
 |some w=>1-2*w
def Jr(n:Nat)(hs:List (Int×Int)):List Int×Int:=((List.range n).map (shN hs),1-(hs.map (·.2)).sum)
theorem Qos(n:Nat)(hs:List (Int×Int)):(Jr n hs).1.length=n:=by show((List.range n).map (shN hs)).length=n;rw[jQ,jV]
theorem Qsq{h:List (Int×Int)}{c:Nat}{w:Int}(hf:hv h c=none)(k:Nat):shN (h++[((c:Int),w)]) k=if k=c then 1-2*w else shN h k:=by
 unfold shN
 rw[Qqe _ _ _ hf]
 unfold setF
 by_cases e:k=c
 .rw[if_pos e,if_pos e]
 .rw[if_neg e,if_neg e]
theorem Jn{K:Fg}{H H1:Hp}{ws:List V}{hs:List (Int×Int)}(hpa:PairsAre K H ws (hs.map fun p=>(p.1,V.int p.2))){i:Nat}{v:V}(e:ws[i]?=some v)(s:Same H H1):∃T c w,v=.ref T/\hs[i]?=some (c,w)/\SqT K H1 T [.int c,.int w]:=by
 obtain⟨T,pr,rfl,ep,hT⟩:=hpa.get e
 rw[jJ]at ep
 obtain⟨⟨c,w⟩,ec,rfl⟩:=xV.mp ep
 exact⟨T,c,w,rfl,ec,s.tup hT⟩
theorem Qot{i:Nat}{hs:List (Int×Int)}{w:Int}(h:Good i hs)(hw:w=0\/w=1)(k:Nat):Good (i+1) (hs.take k++(0+(i:Int),w)::hs.drop k):=by
 have perm:(hs.take k++(0+(i:Int),w)::hs.drop k).Perm ((0+(i:Int),w)::hs):=by
  have:=List.perm_middle (a:=(0+(i:Int),w)) (l₁:=hs.take k) (l₂:=hs.drop k)
  rwa [yQc]at this
 have ok':∀p∈(0+(i:Int),w)::hs,0<=p.1/\p.1<((i+1:Nat):Int)/\(p.2=0\/p.2=1):=by
  intro p hp
  rcases kQ.mp hp with z | z
  .rw[z];exact⟨by show 0<=0+(i:Int);lia,by show 0+(i:Int)<_;lia,hw⟩
  .have:=h.ok p z;exact⟨this.1,Om,this.2.2⟩
 refine⟨?_,fun p hp=>ok' p (perm.mem_iff.mp hp)⟩
 refine(perm.map (·.1)).nodup_iff.mpr ?_
 show((0+(i:Int))::hs.map (·.1)).Nodup
 refine kJ.mpr ⟨fun hm=>?_,h.nd⟩
 obtain⟨p,hp,e⟩:=kY.mp hm
 have:=(h.ok p hp).2.1
 lia
abbrev Qgr:Stmt:=top 37
theorem set_map(ns:List Int)(k:Nat)(x:Int):(ns.map V.int).set k (V.int x)=(ns.set k x).map V.int:=by rw[List.map_set]
theorem Qou{n:Nat}{hs:List (Int×Int)}(h:Good n hs){i:Nat}{c w:Int}(e:hs[i]?=some (c,w)):(List.range n).map (shN (hs.take (i+1)))=((List.range n).map (shN (hs.take i))).set c.toNat (1-2*w):=by
 obtain⟨k1,k2,k3⟩:=h.ok (c,w) (yQ e)
 have k1':0<=c:=k1
 have k2':c<(n:Int):=k2
 have ec:c=((c.toNat:Nat):Int):=Om
 have hf:hv (hs.take i) c.toNat=none:=by
  rw[hv_none,<-ec]
  intro hm
  obtain⟨hi,ei⟩:=jW.mp e
  have nd:=h.nd
  rw[<-yQc i hs,yK,List.drop_eq_getElem_cons hi,ei,yX,kXa]at nd
  exact nd.2.2 c hm c (yV ..) rfl
 rw[Qcd e]
 refine kJd fun k=>?_
 rw[List.getElem?_set,jQ,jV,jJ,jJ]
 have sa:=Qsq (h:=hs.take i) (c:=c.toNat) (w:=w) hf k
 rw[<-ec]at sa
 by_cases hk:k<n
 .rw[jXa hk]
  show some (shN (hs.take i++[(c,w)]) k)=if c.toNat=k then(if c.toNat<n then some (1-2*w)else none)else some (shN (hs.take i) k)
  rw[sa]
  by_cases e2:k=c.toNat
  .rw[if_pos e2,if_pos e2.symm,if_pos Om]
  .rw[if_neg e2,if_neg (fun z=>e2 z.symm)]
 .have e0:(List.range n)[k]?=none:=kQd (by rw[jV];lia)
  rw[e0]
  show none=if c.toNat=k then(if c.toNat<n then some (1-2*w)else none)else none
  rw[if_neg Om]
inductive Qfk(K:Fg)(vs:List V)(H:Hp)(Q:VK)(E:XK):Prop|mk(l:Addr)(n:Nat)(hs:List (Int×Int))(_:vs=[.int (n:Int),.ref l])(_:HoldsAt K H l hs)(_:Good n hs)(_:n<=1000)(_:hs.length<=1000)(_:∀t' H',Same H H'->RowAt K H' t' (Jr n hs)->Q (.ref t') H'):Qfk K vs H Q E
theorem scShutO:FnScope ["_law_many","_law_holds_here","_law_numbers","_law_i","_law_one_here"] ["_law_many","_law_holds_here"] (Qg Qgr):=⟨rfl,rfl,rfl,Dk,rfl,Dk,Dk⟩
theorem Qsr(F:Fn K mg "_law_shut" Qgr)(M:Mg mg):Cal P w K mg base 1 "_law_shut" ["_law_many","_law_holds_here"] (Qfk K):=by
 refine Xt F scShutO (fun _ _ _ _ _ _=>Zo (fun _ _=>rfl)) (fun vs H Q E h=>?_) (fun f cdv A outer s H vs Q E hr h=>?_)
 .obtain⟨l,n,hs,rfl,_⟩:=h
  rfl
 obtain⟨l,n,hs,rfl,⟨ws,hl,hpa⟩,hG,hn,hhl,q⟩:=h
 refine⟨_,(Qb (Qp (i:=2) scShutO.nd rfl (Or.inl rfl) (Qn Wq (Xz (Qa Qf Qe)) (pv 0)))
  (Qb (Yf PassesOwn.never rfl (Xn (pv 1)) (Yu (K:=K) (i:=3) (j:=4) rfl rfl scShutO.nd rfl rfl rfl rfl) (Qi (Js (Qn Xs Qf (Qn Xu Qf (pv 4))) (Jx (pv 2) (pv 3) set_list))))
  (Qi (Qs (Xk (Qa (Qz Xe rfl M.tuple_ Yh (Qa (pv 2) Qe)) (Qa (Qn Xs Qf (Ql (Zy rfl) rfl M.sum Wu (Qa (Zm ["_law_i","_law_one_here"] [none,none] rfl (Xn (pv 1)) (fun _ _ _=>(Yu (K:=K) (i:=0) (j:=1) rfl rfl (show(["_law_i","_law_one_here"]:List Str).Nodup by decide +kernel) rfl rfl rfl rfl)) (fun _ _ _=>Xy) (fun _ _ _=>(pv 1))) Qe))) Qe))))))),?_⟩
 refine Qci ?_
 intro rT3 rT2
 have hz:(2000:Nat)<sizeLine:=Dc
 have lv:=hpa.length
 rw[jQ]at lv
 refine⟨by show 1<=sizeLine;decide,fun p0 hp0=>?_⟩
 refine⟨_,rfl,p0,(n:Int),_,rfl,rfl,Qc,Om,Om,by show 1*((n:Int)).toNat<=sizeLine;lia,fun g0 hg0=>?_⟩
 have e0:(List.replicate ((n:Int)).toNat [V.int 0]).flatten=(List.replicate n (0:Int)).map V.int:=rep0 n
 rw[e0]
 have s0:Same H (upd (upd H p0 (.lst [.int 0])) g0 (.lst ((List.replicate n (0:Int)).map V.int))):=(Qd hp0 _).trans (Qd hg0 _)
 have gH:H g0=none:=by
  cases e5:H g0 with
  |none=>rfl
  |some o=>rw[Qd hp0 (.lst [.int 0]) _ _ e5]at hg0;cases hg0
 have hg:upd (upd H p0 (.lst [.int 0])) g0 (.lst ((List.replicate n (0:Int)).map V.int)) g0=some (.lst ((List.replicate n (0:Int)).map V.int)):=Qc
 generalize upd (upd H p0 (.lst [.int 0])) g0 (.lst ((List.replicate n (0:Int)).map V.int))=H0 at s0 hg⊢
 have hg':_=some (HO.lst (((List.range n).map (shN (hs.take 0))).map V.int)):=hg.trans (by
  have:(List.range n).map (shN (hs.take 0))=List.replicate n 0:=List.eq_replicate_iff.mpr ⟨by rw[jQ,jV],fun b hb=>by obtain⟨k,_,rfl⟩:=kY.mp hb;rfl⟩
  rw[this])
 let Pv18:Nat->St->Hp->Prop:=fun i σ H1=>∃u v:Option V,σ=[some (.int (n:Int)),some (.ref l),some (.ref g0),u,v]/\H1 g0=some (.lst (((List.range n).map (shN (hs.take i))).map V.int))/\Same H H1
 refine⟨_,rfl,l,rfl,⟨_,s0.seq hl⟩,Ym (K:=K) (a:=l) (xs:=ws) Pv18 ⟨none,none,rfl,hg',s0⟩ (fun i σ H1 _ h=>?_) ?_ ?_⟩
 .obtain⟨u,v,rfl,hg1,s1⟩:=h
  exact s1.seq hl
 .rintro i x σ H1 e1 ⟨u,v,rfl,hg1,s1⟩
  obtain⟨T,pr,rfl,ep,hT⟩:=hpa.get e1
  rw[jJ]at ep
  obtain⟨⟨c,w⟩,ec,rfl⟩:=xV.mp ep
  obtain⟨k1,k2,k3⟩:=hG.ok (c,w) (yQ ec)
  have k1':0<=c:=k1
  have k2':c<(n:Int):=k2
  have hl1:((List.range n).map (shN (hs.take i))).length=n:=by rw[jQ,jV]
  refine⟨T,_,rfl,s1.tup hT,rfl,_,_,rfl,_,_,rfl,rfl,?_⟩
  refine⟨_,rfl,_,_,rfl,rfl,.inl ⟨Dc,Dc⟩,_,_,rfl,rfl,_,rfl,_,rfl,g0,_,_,c.toNat,rfl,rfl,hg1,by rw[show c=((c.toNat:Nat):Int)by lia];exact ixNat (by rw[jQ,hl1];lia),?_⟩
  refine⟨some (.int c),some (.int w),rfl,?_,fun b o e=>?_⟩
  .rw[Qc,Qou hG ec,<-set_map]
  .rw[Qj (Qk e gH)];exact s1 _ _ e
 .rintro σ H1 ⟨u,v,rfl,hg1,s1⟩
  have eT:hs.take ws.length=hs:=by rw[lv,wY]
  rw[eT]at hg1
  refine⟨_,rfl,g0,_,rfl,.inl ⟨Qh hg1,fun l2 hl2=>?_⟩⟩
  have s2:=s1.trans (Qd hl2 (.tup (((List.range n).map (shN hs)).map V.int)))
  have hl2':SqT K (upd H1 l2 (.tup (((List.range n).map (shN hs)).map V.int))) l2 (((List.range n).map (shN hs)).map V.int):=Qy Qc
  generalize upd H1 l2 (.tup (((List.range n).map (shN hs)).map V.int))=H2 at s2 hl2'⊢
  refine⟨_,rfl,l,rfl,⟨_,s2.seq hl⟩,fun D hD=>?_⟩
  let Pv19:Nat->St->List V->Hp->Prop:=fun i τ ys H3=>∃u v:Option V,τ=[u,v]/\ys=((hs.map fun p=>p.2).take i).map V.int/\H3 D=some (.lst ys)/\Same H2 H3
  refine Kk (n:=hs.length) Pv19 ?_ (fun i τ ys H3 hi h=>?_) (fun i τ ys H3 hi h=>?_) (fun τ ys H3 h=>?_) ?_ ?_
  .exact⟨none,none,rfl,rfl,Qc,Qd hD _⟩
  .obtain⟨u,v,rfl,rfl,hE,s3⟩:=h
   exact⟨hE,by rw[jQ,xJ];lia⟩
  .obtain⟨u,v,rfl,rfl,hE,s3⟩:=h
   exact⟨ws,ws[i]'Om,(s2.trans s3).seq hl,gE Om⟩
  .obtain⟨u,v,rfl,rfl,hE,s3⟩:=h
   exact⟨ws,(s2.trans s3).seq hl,Om⟩
  .rintro i τ ys H3 x H4 hi ⟨u,v,rfl,rfl,hE,s3⟩ ⟨rfl,e1⟩
   have s23:=s2.trans s3
   obtain⟨T,c,w,rfl,ec,hT⟩:=Jn hpa (e1 _ (s23.seq hl)) s23
   refine⟨T,_,rfl,hT,rfl,_,_,rfl,_,_,rfl,rfl,_,rfl,hE,_,_,rfl,?_,Qc,fun b o e=>?_⟩
   .rw[Qcd (show(hs.map fun p=>p.2)[i]?=some w by rw[jJ,ec];rfl),yK];rfl
   .rw[Qj (Qk e hD)];exact s3 _ _ e
  rintro τ ys H3 ⟨u2,v2,rfl,rfl,hE,s3⟩
  rw[jXc (by rw[jQ];exact jY _)]at hE
  refine⟨D,_,rfl,Qh hE,_,_,rfl,rfl,by show 2<=sizeLine;decide,fun t ht=>?_⟩
  have s4:=Qd ht (.tup [.ref l2,.int (1-(hs.map fun p=>p.2).sum)])
  exact q t _ ((s2.trans s3).trans s4) ⟨l2,Qy Qc,(s3.trans s4).tup hl2'⟩
abbrev sCnt:Stmt:=top 39
inductive Qme(vs:List V)(H:Hp)(Q:VK)(E:XK):Prop|mk(x lo hi:Int)(_:vs=[.int x,.int lo,.int hi])(_:lo<=x)(_:x<=hi)(_:Q (.bl true) H):Qme vs H Q E
theorem scCnt:FnScope ["_law_thing","_law_low","_law_high"] ["_law_thing","_law_low","_law_high"] (Qg sCnt):=⟨rfl,rfl,rfl,Dk,rfl,Dk,Dk⟩
theorem okCnt (F:Fn K mg "_law_counted" sCnt)(M:Mg mg)(cl_whole:Cal P w K mg base 1 "_law_whole" ["_law_found"] (Wz)):Cal P w K mg base 2 "_law_counted" ["_law_thing","_law_low","_law_high"] (Qme):=by
 refine Xt F scCnt (fun _ _ _ _ _ _=>Jv (fun _ _ _=>rfl)) (fun vs H Q E h=>?_) (fun f cdv A outer s H vs Q E hr h=>?_)
 .obtain⟨x,lo,hi,rfl,_⟩:=h
  rfl
 obtain⟨x,lo,hi,rfl,h1,h2,q⟩:=h
 refine⟨_,(Qi (Qs (Qaq (Xh cl_whole (hr.mono Dc) (Qa (pv 0) Qe)) (Qaq (Yj Qrg (pv 1) (pv 0) (Qt _)) (Qcw (Yj Qrg (pv 0) (pv 2) (Qt _))))))),?_⟩
 refine⟨_,rfl,x,rfl,true,rfl,iteT ⟨_,rfl,_,rfl,_,_,rfl,rfl,true,congrArg V.bl (kW h1),iteT ⟨_,rfl,_,rfl,_,_,rfl,rfl,?_⟩⟩⟩
 show Q (.bl (decide (x<=hi))) H
 rw[kW h2]
 exact q
abbrev Qgs:Stmt:=top 36
theorem Qak{ns:List Int}{i:Nat}(h:i<ns.length):atI (ns.map V.int) ((i:Nat):Int)=some (.int (ns.getD i 0)):=by
 refine Zw ?_
 rw[jJ,jZ,gE h]
 rfl
inductive Qfl(K:Fg)(vs:List V)(H:Hp)(Q:VK)(E:XK):Prop|mk(t l:Addr)(r:List Int×Int)(hs:List (Int×Int))(_:vs=[.ref t,.ref l])(_:RowAt K H t r)(_:HoldsAt K H l hs)(_:Good r.1.length hs)(_:r.1.length<=1000)(_:hs.length<=1000)(_:∀H',Same H H'->Q (.int (roomF r.1.length (hv hs) r+r.2)) H'):Qfl K vs H Q E
theorem scMostL:FnScope ["_law_row_here","_law_holds_here","_law_total","_law_i","_law_one_here"] ["_law_row_here","_law_holds_here"] (Qg Qgs):=⟨rfl,rfl,rfl,Dk,rfl,Dk,Dk⟩
theorem Qss (F:Fn K mg "_law_most" Qgs)(M:Mg mg):Cal P w K mg base 1 "_law_most" ["_law_row_here","_law_holds_here"] (Qfl K):=by
 refine Xt F scMostL (fun _ _ _ _ _ _=>Zo (fun _ _=>rfl)) (fun vs H Q E h=>?_) (fun f cdv A outer s H vs Q E hr h=>?_)
 .obtain⟨t,l,r,hs,rfl,_⟩:=h
  rfl
 obtain⟨t,l,r,hs,rfl,⟨c,h1,h2⟩,⟨us,hl,hp⟩,hG,h7,hh,q⟩:=h
 refine⟨_,(Qb (Qp (i:=2) scMostL.nd rfl (Or.inl rfl) (Ql (Zy rfl) rfl M.sum Wu (Qa (Zm ["_law_number"] [none] rfl (Ki (Qo Qu (pv 0) Qf (fun _ _=>rfl))) (fun _ _ _=>(Qx (i:=0) (show(["_law_number"]:List Str).Nodup by decide +kernel) rfl (Or.inl rfl) (Or.inr rfl))) (fun _ _ _=>Xy) (fun _ _ _=>(Ql (Kw rfl) rfl M.max Qdl (Qa Qf (Qa (pv 0) Qe))))) Qe)))
  (Qb (Yf PassesOwn.never rfl (Xn (pv 1)) (Yu (K:=K) (i:=3) (j:=4) rfl rfl scMostL.nd rfl rfl rfl rfl) (Qi (Qp (i:=2) scMostL.nd rfl (Or.inl rfl) (Qn Xs (Qn Yi (pv 2) (Qn Xu (pv 4) (Qo Qu (Qo Qu (pv 0) Qf (fun _ _=>rfl)) (pv 3) (fun _ _=>rfl)))) (Ql (Kw rfl) rfl M.max Qdl (Qa Qf (Qa (Qo Qu (Qo Qu (pv 0) Qf (fun _ _=>rfl)) (pv 3) (fun _ _=>rfl)) Qe)))))))
  (Qi (Qs (pv 2))))),?_⟩
 have hz:(1000:Nat)<sizeLine:=Dc
 have lv:=hp.length
 rw[jQ]at lv
 refine⟨_,rfl,t,_,_,_,rfl,rfl,h1,at0,c,rfl,⟨_,h2⟩,fun D hD=>?_⟩
 refine Zi (xs:=r.1) (val:=V.int) V.int (fun n=>addF none n) rfl (Ke h2) Om hD (fun n hn H1 s1 P h=>⟨_,rfl,_,_,rfl,h H1 fun _ _ z=>z⟩) fun H1 s1 h3=>?_
 refine⟨D,_,rfl,Qh h3,?_⟩
 have e0:(r.1.map fun n=>addF none n).sum=roomF r.1.length (hv (hs.take 0)) r+r.2:=by
  unfold roomF sumN
  show _=((List.range r.1.length).map fun j=>addF none (r.1.getD j 0)).sum-r.2+r.2
  rw[Int.sub_add_cancel]
  refine congrArg List.sum (kYe (by simp) fun i a1 a2=>?_)
  rw[jJf,jJf,kXe,jZ,gE]
  rfl
 rw[e0]
 let Pv20:Nat->St->Hp->Prop:=fun i σ H2=>∃u v:Option V,σ=[some (.ref t),some (.ref l),some (.int (roomF r.1.length (hv (hs.take i)) r+r.2)),u,v]/\Same H H2
 refine⟨_,rfl,l,rfl,⟨_,s1.seq hl⟩,Ym (xs:=us) Pv20 ⟨none,none,rfl,s1⟩ (fun i σ H2 _ ⟨_,_,_,s⟩=>s.seq hl) ?_ ?_⟩
 .rintro i x σ H2 e1 ⟨u,v,rfl,s2⟩
  obtain⟨T,c',w',rfl,ec,hT⟩:=Jn hp e1 s2
  obtain⟨k1,k2,k3⟩:=hG.ok _ (yQ ec)
  have k1':0<=c':=k1
  have k2':c'<(r.1.length:Int):=k2
  have k3':w'=0\/w'=1:=k3
  have ea:atI (r.1.map V.int) c'=some (.int (r.1.getD c'.toNat 0)):=by
   have:=Qak (ns:=r.1) (i:=c'.toNat) Om
   rw[show((c'.toNat:Nat):Int)=c' by lia]at this
   exact this
  have hf:hv (hs.take i) c'.toNat=none:=by
   rw[hv_none,show((c'.toNat:Nat):Int)=c' by lia]
   intro hm
   obtain⟨hi,ei⟩:=jW.mp ec
   have nd:=hG.nd
   rw[<-yQc i hs,yK,List.drop_eq_getElem_cons hi,ei,yX,kXa]at nd
   exact nd.2.2 c' hm c' (yV ..) rfl
  have es:roomF r.1.length (hv (hs.take (i+1))) r=roomF r.1.length (hv (hs.take i)) r+(w'*r.1.getD c'.toNat 0-addF none (r.1.getD c'.toNat 0)):=by
   rw[Qcd ec,show(c',w')=(((c'.toNat:Nat):Int),w')by rw[show((c'.toNat:Nat):Int)=c' by lia],Qqe _ _ _ hf,Qlx Om hf]
  refine⟨T,_,rfl,hT,rfl,_,_,rfl,_,_,rfl,rfl,?_⟩
  refine⟨_,rfl,_,rfl,_,rfl,t,_,_,_,rfl,rfl,s2.tup h1,at0,_,rfl,c,_,_,_,rfl,rfl,s2.tup h2,ea,_,_,rfl,rfl,.inl ⟨Om,Om⟩,_,_,rfl,rfl,_,rfl,t,_,_,_,rfl,rfl,s2.tup h1,at0,_,rfl,c,_,_,_,rfl,rfl,s2.tup h2,ea,_,_,rfl,_,_,rfl,rfl,some (.int c'),some (.int w'),?_,s2⟩
  show _=[some (V.ref t),some (V.ref l),some (V.int (roomF r.1.length (hv (hs.take (i+1))) r+r.2)),some (V.int c'),some (V.int w')]
  rw[es,show roomF r.1.length (hv (hs.take i)) r+(w'*r.1.getD c'.toNat 0-addF none (r.1.getD c'.toNat 0))+r.2=roomF r.1.length (hv (hs.take i)) r+r.2+w'*r.1.getD c'.toNat 0-addF none (r.1.getD c'.toNat 0)by lia]
  rfl
 .rintro σ H2 ⟨u,v,rfl,s2⟩
  rw[lv,wY]
  exact⟨_,rfl,q H2 s2⟩
abbrev sSmd:Stmt:=top 38
def Qal(rs:List (List Int×Int))(p:Int×Int):Part:=(rs.getD p.1.toNat ([],0),p.2)
theorem Qst{f:Int->Int->Int}{a b:List Int}{n:Nat}(ha:a.length=n)(hb:b.length=n):List.zipWith f a b=(List.range n).map fun k=>f (a.getD k 0) (b.getD k 0):=by
 refine kYe (by simp[ha,hb]) fun i h1 h2=>?_
 rw[kZe]at h1
 rw[List.getElem_zipWith,jJf,kXe,jZ,jZ,gE (show i<a.length by lia),gE (show i<b.length by lia)]
 rfl
inductive Qsu(K:Fg)(vs:List V)(H:Hp)(Q:VK)(E:XK):Prop|mk(l g:Addr)(n:Nat)(us:List V)(rs:List (List Int×Int))(ps:List (Int×Int))(_:vs=[.int ((n:Nat):Int),.ref l,.ref g])(_:SqL K H l us)(_:RowsAre K H us rs)(_:HoldsAt K H g ps)(_:n<=1000)(_:(∀r∈rs,r.1.length=n))(_:(∀p∈ps,0<=p.1/\p.1<(rs.length:Int)/\-(2 ^ 64)<p.2/\p.2<2 ^ 64))(_:∀t' H',Same H H'->RowAt K H' t' (Yg n (ps.map (Qal rs)))->Q (.ref t') H'):Qsu K vs H Q E
theorem scSmd:FnScope ["_law_many","_law_rows","_law_parts","_law_numbers","_law_least","_law_place","_law_count"] ["_law_many","_law_rows","_law_parts"] (Qg sSmd):=⟨rfl,rfl,rfl,Dk,rfl,Dk,Dk⟩
theorem okSmd (F:Fn K mg "_law_summed" sSmd)(M:Mg mg):Cal P w K mg base 1 "_law_summed" ["_law_many","_law_rows","_law_parts"] (Qsu K):=by
 refine Xt F scSmd (fun _ _ _ _ _ _=>Jv (fun _ _ _=>rfl)) (fun vs H Q E h=>?_) (fun f cdv A outer s H vs Q E hr h=>?_)
 .obtain⟨l,g,n,us,rs,ps,rfl,_⟩:=h
  rfl
 obtain⟨l,g,n,us,rs,ps,rfl,hl,hr',⟨vs,hg,hp⟩,hn,hrn,hps,q⟩:=h
 refine⟨_,(Qb (Qp (i:=3) scSmd.nd rfl (Or.inr rfl) (Qn Wq (Xz (Qa Qf Qe)) (pv 0)))
  (Qb (Qp (i:=4) scSmd.nd rfl (Or.inl rfl) Qf)
  (Qb (Yf PassesOwn.never rfl (Xn (pv 2)) (Qft rfl (Jh (Qx (i:=5) scSmd.nd rfl (Or.inr rfl) (Or.inl rfl)) (Jh (Qx (i:=6) scSmd.nd rfl (Or.inr rfl) (Or.inl rfl)) Qbk))) (Qb (Qp (i:=3) scSmd.nd rfl (Or.inr rfl) (Zm ["_law_i","_law_rows","_law_numbers","_law_place","_law_count"] [none,some 1,some 3,some 5,some 6] rfl (Yo rfl M.range_ (Qa (pv 0) Qe)) (fun _ _ _=>(Qx (i:=0) (show(["_law_i","_law_rows","_law_numbers","_law_place","_law_count"]:List Str).Nodup by decide +kernel) rfl (Or.inl rfl) (Or.inr rfl))) (fun _ _ _=>Xy) (fun _ _ _=>(Qn Yi (Qo (Zr (K:=K) rfl) (pv 2) (pv 0) (fun _ _=>rfl)) (Qn Xu (pv 4) (Qo (Jy (K:=K) rfl) (Qo (Jy (K:=K) rfl) (Qo (Zr (K:=K) rfl) (pv 1) (pv 3) (fun _ _=>rfl)) Qf (fun _ _=>rfl)) (pv 0) (fun _ _=>rfl)))))))
  (Qi (Qp (i:=4) scSmd.nd rfl (Or.inl rfl) (Qn Yi (pv 4) (Qn Xu (pv 6) (Qo Qu (Qo Qw (pv 1) (pv 5) (fun _ _=>rfl)) Qf (fun _ _=>rfl))))))))
  (Qi (Qs (Xk (Qa (Qz Xe rfl M.tuple_ Yh (Qa (pv 3) Qe)) (Qa (pv 4) Qe)))))))),?_⟩
 have hz:(1000:Nat)<sizeLine:=Dc
 have lv:=hp.length
 rw[jQ]at lv
 have lu:=hr'.length
 refine⟨by show 1<=sizeLine;decide,fun p0 hp0=>?_⟩
 refine⟨_,rfl,p0,(n:Int),_,rfl,rfl,Qc,Om,Om,by show 1*((n:Int)).toNat<=sizeLine;lia,fun g0 hg0=>?_⟩
 have e0:(List.replicate ((n:Int)).toNat [V.int 0]).flatten=(List.replicate n (0:Int)).map V.int:=rep0 n
 rw[e0]
 have s0:Same H (upd (upd H p0 (.lst [.int 0])) g0 (.lst ((List.replicate n (0:Int)).map V.int))):=(Qd hp0 _).trans (Qd hg0 _)
 refine⟨_,rfl,g,rfl,⟨_,s0.seq hg⟩,Ym (xs:=vs) (fun i σ H1=>∃(d:Addr) (u v:Option V),σ=[some (.int (n:Int)),some (.ref l),some (.ref g),some (.ref d),some (.int (Yg n ((ps.take i).map (Qal rs))).2),u,v]/\SqL K H1 d ((Yg n ((ps.take i).map (Qal rs))).1.map V.int)/\Same H H1) ⟨g0,none,none,rfl,Qh Qc,s0⟩ (fun i σ H1 _ ⟨_,_,_,_,_,s⟩=>s.seq hg) ?_ ?_⟩
 .rintro i x σ H1 e1 ⟨d,u,v,rfl,hd,s1⟩
  obtain⟨T,c,w',rfl,ec,hT⟩:=Jn hp e1 s1
  obtain⟨k1,k2,k3,k4⟩:=hps _ (yQ ec)
  have k1':0<=c:=k1
  have k2':c<(rs.length:Int):=k2
  have k3':-(2 ^ 64)<w':=k3
  have k4':w'<2 ^ 64:=k4
  have hc:c.toNat<us.length:=Om
  obtain⟨r,er,hrow⟩:∃r,rs[c.toNat]?=some r/\∃t,us[c.toNat]?=some (.ref t)/\RowAt K H t r:=by
   obtain⟨r,er,t,e,h⟩:=L2.Paired.getR hr' (gE hc)
   exact⟨r,er,t,by rw[gE hc,e],h⟩
  obtain⟨t,et,c',r1,r2⟩:=hrow
  have lr:r.1.length=n:=hrn r (yQ er)
  have ea:atI us c=some (.ref t):=by
   have:=Zw et
   rw[show((c.toNat:Nat):Int)=c by lia]at this
   exact this
  have lA:(Yg n ((ps.take i).map (Qal rs))).1.length=n:=Jm n _ fun p hp'=>by
   obtain⟨p',hp2,e⟩:=kY.mp hp'
   have h3:=hps p' (kZb hp2)
   rw[<-e]
   show(rs.getD p'.1.toNat ([],0)).1.length=n
   rw[jZ,gE (show p'.1.toNat<rs.length by have:=h3.1;have:=h3.2.1;lia)]
   exact hrn _ (jQf _)
  have eS:Yg n ((ps.take (i+1)).map (Qal rs))=addPart (Yg n ((ps.take i).map (Qal rs))) (r,w'):=by
   rw[Qcd ec,yK]
   unfold Yg
   rw[kJe]
   show addPart _ (rs.getD c.toNat ([],0),w')=_
   rw[jZ,er]
   rfl
  rw[eS]
  generalize Yg n ((ps.take i).map (Qal rs))=acc at hd lA⊢
  refine⟨T,_,rfl,hT,rfl,_,_,rfl,_,_,rfl,rfl,?_⟩
  refine⟨_,rfl,(n:Int),rfl,Om,Om,fun D hD=>?_⟩
  rw[zK]
  refine Zi (xs:=List.range n) (val:=fun k=>V.int ((k:Nat):Int)) V.int (fun k=>acc.1.getD k 0+w'*r.1.getD k 0) rfl Vc (by rw[jV];lia) hD (fun k hk H2 s2 P h=>?_) fun H2 s2 h2=>?_
  .have hk':=xX.mp hk
   have s12:=s1.trans s2
   exact⟨_,rfl,_,rfl,d,_,_,_,rfl,rfl,s2.seq hd,Qak Om,_,rfl,_,rfl,_,rfl,l,_,_,_,rfl,rfl,s12.seq hl,ea,t,_,_,_,rfl,rfl,s12.tup r1,at0,_,rfl,c',_,_,_,rfl,rfl,s12.tup r2,Qak Om,_,_,rfl,rfl,.inl ⟨k3',k4'⟩,_,_,rfl,rfl,h H2 fun _ _ z=>z⟩
  have s12:=s1.trans s2
  refine⟨_,rfl,_,rfl,_,rfl,_,rfl,l,_,_,_,rfl,rfl,s12.seq hl,ea,t,_,_,_,rfl,rfl,s12.tup r1,at1,_,_,rfl,rfl,.inl ⟨k3',k4'⟩,_,_,rfl,rfl,D,some (.int c),some (.int w'),rfl,?_,s12⟩
  have e3:(addPart acc (r,w')).1=(List.range n).map fun k=>acc.1.getD k 0+w'*r.1.getD k 0:=Qst lA lr
  rw[e3]
  exact Qh h2
 .rintro σ H1 ⟨d,u,v,rfl,hd,s1⟩
  rw[lv,wY]at hd⊢
  refine⟨_,rfl,d,_,rfl,.inl ⟨hd,fun l2 hl2=>⟨_,rfl,by show 2<=sizeLine;decide,fun T' hT'=>?_⟩⟩⟩
  exact q T' _ (s1.trans ((Qd hl2 _).trans (Qd hT' _))) (Qcq hT')
abbrev Qov:Stmt:=top 33
inductive Qmf(K:Fg)(vs:List V)(H:Hp)(Q:VK)(E:XK):Prop|mk(a:Addr)(ns:List Int)(_:vs=[.ref a])(_:SqL K H a (ns.map V.int))(_:∀(o:Option Int) H',Same H H'->Q (Vp o) H'):Qmf K vs H Q E
theorem scBest:FnScope ["_law_script","_law_cell"] ["_law_script"] (Qg Qov):=⟨rfl,rfl,rfl,Dk,rfl,Dk,Dk⟩
theorem okBest (F:Fn K mg "_law_best" Qov)(M:Mg mg)(cl_cell_at:Cal P w K mg base 1 "_law_cell_at" ["_law_script","_law_k"] (Qdw K)):Cal P w K mg base 2 "_law_best" ["_law_script"] (Qmf K):=by
 refine Xt F scBest (fun _ _ _ _ _ _=>bind1 (fun _=>rfl)) (fun vs H Q E h=>?_) (fun f cdv A outer s H vs Q E hr h=>?_)
 .obtain⟨a,ns,rfl,_⟩:=h
  rfl
 obtain⟨a,ns,rfl,hS,q⟩:=h
 refine⟨_,(Qb (Qp (i:=1) scBest.nd rfl (Or.inl rfl) (Xh cl_cell_at (hr.mono Dc) (Qa (pv 0) (Qa Qf Qe))))
  (Qi (Qs (Qo Qw (Xz (Qa (Qn Xs (Qn Zd (Qn Zj (pv 1) Qf) Qf) Qf) (Qa Ye (Qa (Qn Xs (Qn Zd (Qn Zj (pv 1) Qf) Qf) Qf) (Qa (Qn Xs (Qn Xu (Qn Zd (Qn Zj (pv 1) Qf) Qf) (Qn Wj Qf Qf)) (Qn Xu Qf (Qn Wj Qf Qf))) Qe))))) (Qn Zd (pv 1) Qf) (fun _ _=>rfl))))),?_⟩
 refine⟨_,rfl,a,ns,1,rfl,hS,Dc,fun z=>?_⟩
 refine⟨_,rfl,_,_,rfl,rfl,⟨Dc,Dc⟩,_,_,rfl,rfl,(by show(0:Int)<_;decide +kernel),_,_,rfl,rfl,?_⟩
 refine⟨_,rfl,_,_,rfl,rfl,⟨Dc,Dc⟩,_,_,rfl,rfl,(by show(0:Int)<_;decide +kernel),_,_,rfl,rfl,?_⟩
 refine⟨_,rfl,_,_,rfl,rfl,⟨Dc,Dc⟩,_,_,rfl,rfl,(by show(0:Int)<_;decide +kernel),_,_,rfl,rfl,⟨Dc,Dc,Dc⟩,_,_,rfl,rfl,.inr ⟨Dk,Dk⟩,_,_,rfl,rfl,⟨Dc,Dc,Dc⟩,_,_,rfl,rfl,.inl ⟨Dc,Dc⟩,_,_,rfl,rfl,by show 4<=sizeLine;decide,fun p hp=>?_⟩
 have s1:=Qd hp (.lst [V.int (z / 4 % 17-8),V.non,V.int (z / 4 % 17-8),V.int (z / 4 % 17*(10:Int) ^ (16:Int).toNat-5*(10:Int) ^ (16:Int).toNat)])
 refine⟨_,rfl,_,_,rfl,rfl,(by show(0:Int)<_;decide +kernel),?_⟩
 have a0:=jYc z (show(4:Int)≠0 by decide)
 have a1:=jYd z (show(0:Int)<4 by decide)
 have ha:z % 4=0\/z % 4=1\/z % 4=2\/z % 4=3:=Om
 rcases ha with e | e | e | e
 .exact⟨p,_,_,_,rfl,rfl,Qh Qc,by show atI _ (z % 4)=_;rw[e];rfl,q (some _) _ s1⟩
 .exact⟨p,_,_,_,rfl,rfl,Qh Qc,by show atI _ (z % 4)=_;rw[e];rfl,q none _ s1⟩
 .exact⟨p,_,_,_,rfl,rfl,Qh Qc,by show atI _ (z % 4)=_;rw[e];rfl,q (some _) _ s1⟩
 .exact⟨p,_,_,_,rfl,rfl,Qh Qc,by show atI _ (z % 4)=_;rw[e];rfl,q (some _) _ s1⟩
abbrev Qow:Stmt:=top 34
inductive Qqf(K:Fg)(vs:List V)(H:Hp)(Q:VK)(E:XK):Prop|mk(x:Int)(n:Nat)(_:vs=[.int x,.int (n:Int)])(_:n<=100)(_:∀(g:Addr) (hs:List (Int×Int)) (ws:List V) (H':Hp),(∀b o,H b=some o->H' b=some o)->H g=none->H' g=some (.lst ws)->PairsAre K H' ws (hs.map fun p=>(p.1,V.int p.2))->Good n hs->hs.length<=n->Q (.ref g) H'):Qqf K vs H Q E
theorem scHlds:FnScope ["_law_left_here","_law_many","_law_holds_here","_law_i"] ["_law_left_here","_law_many"] (Qg Qow):=⟨rfl,rfl,rfl,Dk,rfl,Dk,Dk⟩
theorem okHlds (F:Fn K mg "_law_holds" Qow)(M:Mg mg):Cal P w K mg base 1 "_law_holds" ["_law_left_here","_law_many"] (Qqf K):=by
 refine Xt F scHlds (fun _ _ _ _ _ _=>Zo (fun _ _=>rfl)) (fun vs H Q E h=>?_) (fun f cdv A outer s H vs Q E hr h=>?_)
 .obtain⟨x,n,rfl,_⟩:=h
  rfl
 obtain⟨x,n,rfl,hn,q⟩:=h
 refine⟨_,(Qb (Qp (i:=2) scHlds.nd rfl (Or.inl rfl) (Xz Qe))
  (Qb (Yf PassesOwn.never rfl (Yo rfl M.range_ (Qa (pv 1) Qe)) (Qx (i:=3) scHlds.nd rfl (Or.inl rfl) (Or.inl rfl)) (Qb (Xi (Qr Jo (Qn Zd (pv 0) Qf) Qf (Qt _)) (Qi (Ys (Vw PySem.F.plainAttrs_list PySem.F.slot_list_insert PySem.F.type_list_insert Qjx (pv 2) (Qa (Qn Zd (Qn Zj (pv 0) Qf) (Qn Yi (Ql Qm rfl M.len Xl (Qa (pv 2) Qe)) Qf)) (Qa (Xk (Qa (pv 3) (Qa (Qn Zd (pv 0) Qf) Qe))) Qe))))) Qv)
  (Qi (Qp (i:=0) scHlds.nd rfl (Or.inl rfl) (Qn Zj (pv 0) Qf)))))
  (Qi (Qs (pv 2))))),?_⟩
 have hz:(1000:Nat)<sizeLine:=Dc
 refine⟨by show 0<=sizeLine;decide,fun g fg=>?_⟩
 let Pv21:Nat->St->Hp->Prop:=fun i σ H1=>∃(hs:List (Int×Int)) (ws:List V) (y:Int) (u1:Option V),σ=[some (.int y),some (.int (n:Int)),some (.ref g),u1]/\H1 g=some (.lst ws)/\PairsAre K H1 ws (hs.map fun p=>(p.1,V.int p.2))/\Good i hs/\hs.length<=i/\∀b o,H b=some o->H1 b=some o
 refine⟨_,rfl,(n:Int),rfl,Om,Om,Jk (lo:=0) (n:=((n:Int)).toNat) Pv21
  ⟨[],[],x,none,rfl,Qc,.nil,⟨jKd,fun p hp=>nomatch hp⟩,jY _,fun b o e=>by rw[Qj (Qk e fg)];exact e⟩ ?_ ?_⟩
 .rintro i σ H1 hi ⟨hs,ws,y,u1,rfl,hg,hpa,hG,hlen,kp⟩
  have hi':i<n:=hi
  have lv:=hpa.length
  rw[jQ]at lv
  have w0:=jYc y (show(3:Int)≠0 by decide)
  refine⟨_,rfl,_,_,rfl,rfl,(by show(0:Int)<_;decide +kernel),_,_,rfl,rfl,_,rfl,ite2 (fun c=>?_) (fun c=>?_)⟩
  .have c':y % 3<2:=kK c
   have k0:=jYc (y / 3) (show((ws.length:Nat):Int)+1≠0 by lia)
   have k1:=jYd (y / 3) (show(0:Int)<((ws.length:Nat):Int)+1 by lia)
   generalize hk:(y / 3) % (((ws.length:Nat):Int)+1)=k at k0 k1
   refine⟨_,rfl,.inl ⟨rfl,_,Qh hg⟩,_,rfl,_,_,rfl,rfl,⟨Dc,Dc⟩,_,rfl,g,ws,rfl,.inl (Qh hg),_,_,rfl,rfl,_,_,rfl,rfl,(by show(0:Int)<_;lia),_,rfl,_,rfl,_,_,rfl,rfl,(by show(0:Int)<_;decide +kernel),by show 2<=sizeLine;decide,fun T hT=>?_⟩
   have s2:Same H1 (upd H1 T (.tup [.int (0+(i:Int)),.int (y % 3)])):=Qd hT _
   have hg4:=s2 _ _ hg
   refine⟨g,ws,k,_,rfl,by rw[<-hk],hg4,k0,Om,Om,?_⟩
   refine⟨_,rfl,_,_,rfl,rfl,⟨Dc,Dc⟩,hs.take k.toNat++(0+(i:Int),y % 3)::hs.drop k.toNat,_,_,_,rfl,Qc,?_,Qot hG Om _,?_,fun b o e=>?_⟩
   .have:=PairsAre.upd (zs:=insV ws k.toNat (.ref T)) hg4 (Qlv (PairsAre.same s2 hpa) (Qy Qc) k.toNat)
    rw[<-List.map_take,<-List.map_drop]at this
    rw[yK,yX]
    exact this
   .rw[kZ,xQ,xJ,List.length_drop];lia
   .rw[Qj (Qk e fg)];exact s2 _ _ (kp b o e)
  .exact⟨_,rfl,_,_,rfl,rfl,⟨Dc,Dc⟩,hs,ws,_,_,rfl,hg,hpa,⟨hG.nd,fun p hp=>⟨(hG.ok p hp).1,by have:=(hG.ok p hp).2.1;lia,(hG.ok p hp).2.2⟩⟩,Om,kp⟩
 .rintro σ H1 ⟨hs,ws,y,u1,rfl,hg,hpa,hG,hlen,kp⟩
  exact⟨_,rfl,q g hs ws H1 kp fg hg hpa hG hlen⟩
theorem Qgt{n:Nat}{xs:List D}:Alike (n+1) (.lst xs) (.lst []):=.lst fun i x y _ e2=>by simp at e2
theorem Qqg{K:Fg}{H:Hp}{l:Addr}(h:H l=some (.lst [])):HasD K H (.ref l) (.lst []):=.lst (Qh h) rfl fun i v x e1 _=>by simp at e1
abbrev Qmg:Stmt:=top 40
inductive Qqh(K:Fg)(vs:List V)(H:Hp)(Q:VK)(E:XK):Prop|mk(g:Addr)(ps:List (Int×Int))(m:Int)(_:vs=[.ref g,.int m])(_:HoldsAt K H g ps)(_:ps≠[])(_:(∀p∈ps,0<=p.1/\p.1<=m-1/\0<=p.2))(_:∀H',Same H H'->Q (.bl true) H'):Qqh K vs H Q E
theorem scPrts:FnScope ["_law_parts","_law_many","_law_part"] ["_law_parts","_law_many"] (Qg Qmg):=⟨rfl,rfl,rfl,Dk,rfl,Dk,Dk⟩
theorem okPrts (F:Fn K mg "_law_are_parts" Qmg)(M:Mg mg)(cl_counted:Cal P w K mg base 2 "_law_counted" ["_law_thing","_law_low","_law_high"] (Qme))(cl_whole:Cal P w K mg base 1 "_law_whole" ["_law_found"] (Wz)):Cal P w K mg base 3 "_law_are_parts" ["_law_parts","_law_many"] (Qqh K):=by
 refine Xt F scPrts (fun _ _ _ _ _ _=>Zo (fun _ _=>rfl)) (fun vs H Q E h=>?_) (fun f cdv A outer s H vs Q E hr h=>?_)
 .obtain⟨g,ps,m,rfl,_⟩:=h
  rfl
 obtain⟨g,ps,m,rfl,hh,hne,hps,q⟩:=h
 have hu6:(A.deeper (PyProof.Rows.envOfC "_law_are_parts" (Qg Qmg) s.heap.objs.size f cdv)).units+6<cLine:=zQ (zZ Dc _) hr.un
 refine⟨_,(Qb (Xi (PW.pt (Wh (Jg (Xj (Ql Ja rfl M.isinstance Xw (Qa (pv 0) (Qa (Qbs M.list_ Yv) Qe))))) (Kv (Qr (Qju (n:=6) hu6) (pv 0) (Xz Qe) (Qt _))))) (Qi (Qs Km)) Qv)
  (Qb (Yf PassesOwn.never rfl (Xn (pv 0)) (Qx (i:=2) scPrts.nd rfl (Or.inl rfl) (Or.inl rfl)) (Qb (Xi (PW.pt (Wh (Jg (Xj (Ql Ja rfl M.isinstance Xw (Qa (pv 2) (Qa (Qbs M.tuple_ Yh) Qe))))) (Wh (Qr Qha (Ql Qm rfl M.len Xl (Qa (pv 2) Qe)) Qf (Qt _)) (Kv (Jg (Xj (Xh cl_counted (hr.mono Dc) (Qa (Qo Qu (pv 2) Qf (fun _ _=>rfl)) (Qa Qf (Qa (Qn Xs (pv 1) Qf) Qe)))))))))) (Qi (Qs Km)) Qv)
  (Qi (Xi (PW.pt (Wh (Jg (Xj (Xh cl_whole (hr.mono Dc) (Qa (Qo Qu (pv 2) Qf (fun _ _=>rfl)) Qe)))) (Kv (Qr Jo (Qo Qu (pv 2) Qf (fun _ _=>rfl)) Qf (Qt _))))) (Qi (Qs Km)) Qv))))
  (Qi (Qs Km)))),?_⟩
 obtain⟨ws,hl,hpa⟩:=id hh
 have lv:=hpa.length
 rw[jQ]at lv
 refine⟨_,rfl,_,"list",true,rfl,.list,.inr ⟨⟨_,hl⟩,rfl⟩,_,rfl,iteF ⟨_,rfl,by show 0<=sizeLine;decide,fun e he=>?_⟩⟩
 have s1:=Qd he (.lst [])
 refine⟨g,e,_,_,rfl,rfl,(hh.same s1).hasD,Qqg Qc,Qgt,fun c' hc'=>?_⟩
 have ec:c'=false:=by
  cases c' with
  |false=>rfl
  |true=>
   have e5:=hc'.mp rfl
   cases ps with
   |nil=>exact absurd rfl hne
   |cons p t=>cases e5
 rw[ec]
 let Pv22:Nat->St->Hp->Prop:=fun i σ H1=>(∃u:Option V,σ=[some (.ref g),some (.int m),u])/\Same H H1
 refine⟨_,rfl,iteF ⟨_,rfl,g,rfl,⟨_,s1.seq hl⟩,Ym (xs:=ws) Pv22 ⟨⟨none,rfl⟩,s1⟩ (fun i σ H1 _ h=>h.2.seq hl) ?_ ?_⟩⟩
 .rintro i x σ H1 e1 ⟨⟨u,rfl⟩,s2⟩
  obtain⟨T,c,w,rfl,ec,hT⟩:=Jn hpa e1 s2
  obtain⟨g1,g2,g3⟩:=hps (c,w) (yQ ec)
  refine⟨_,rfl,_,"tuple",true,rfl,.tuple,.inl ⟨⟨_,hT⟩,rfl⟩,_,rfl,iteF ?_⟩
  refine⟨_,rfl,T,_,rfl,.inr hT,rfl,_,rfl,iteF ?_⟩
  refine⟨_,rfl,T,_,_,_,rfl,rfl,hT,at0,_,rfl,_,_,rfl,rfl,c,_,_,rfl,g1,g2,_,rfl,iteF ?_⟩
  refine⟨_,rfl,T,_,_,_,rfl,rfl,hT,at1,w,rfl,_,rfl,iteF ⟨_,rfl,T,_,_,_,rfl,rfl,hT,at1,_,_,rfl,rfl,_,rfl,ite2 (fun y=>absurd (kK y) (by have g3':0<=w:=g3;show ¬w<0;lia)) fun _=>⟨⟨_,rfl⟩,s2⟩⟩⟩
 .rintro σ H1 ⟨⟨u,rfl⟩,s2⟩
  exact q H1 s2
abbrev sHdl:Stmt:=top 41
inductive spHdl(K:Fg)(vs:List V)(H:Hp)(Q:VK)(E:XK):Prop|mk(l:Addr)(hs:List (Int×Int))(n:Nat)(_:vs=[.ref l,.int (n:Int)])(_:HoldsAt K H l hs)(_:Good n hs)(_:hs.length<=1000)(_:∀H',Same H H'->Q (.bl true) H'):spHdl K vs H Q E
theorem scHdl:FnScope ["_law_holds_here","_law_many","_law_hold"] ["_law_holds_here","_law_many"] (Qg sHdl):=⟨rfl,rfl,rfl,Dk,rfl,Dk,Dk⟩
theorem okHdl (F:Fn K mg "_law_are_holds" sHdl)(M:Mg mg)(cl_counted:Cal P w K mg base 2 "_law_counted" ["_law_thing","_law_low","_law_high"] (Qme)):Cal P w K mg base 3 "_law_are_holds" ["_law_holds_here","_law_many"] (spHdl K):=by
 refine Xt F scHdl (fun _ _ _ _ _ _=>Zo (fun _ _=>rfl)) (fun vs H Q E h=>?_) (fun f cdv A outer s H vs Q E hr h=>?_)
 .obtain⟨l,hs,n,rfl,_⟩:=h
  rfl
 obtain⟨l,hs,n,rfl,⟨ws,hl,hpa⟩,hG,hn,q⟩:=h
 refine⟨_,(Qb (Xi (Jg (Xj (Ql Ja rfl M.isinstance Xw (Qa (pv 0) (Qa (Qbs M.list_ Yv) Qe))))) (Qi (Qs Km)) Qv)
  (Qb (Yf PassesOwn.never rfl (Xn (pv 0)) (Qx (i:=2) scHdl.nd rfl (Or.inl rfl) (Or.inl rfl)) (Qb (Xi (PW.pt (Wh (Jg (Xj (Ql Ja rfl M.isinstance Xw (Qa (pv 2) (Qa (Qbs M.tuple_ Yh) Qe))))) (Wh (Qr Qha (Ql Qm rfl M.len Xl (Qa (pv 2) Qe)) Qf (Qt _)) (Kv (Jg (Xj (Xh cl_counted (hr.mono Dc) (Qa (Qo Qu (pv 2) Qf (fun _ _=>rfl)) (Qa Qf (Qa (Qn Xs (pv 1) Qf) Qe)))))))))) (Qi (Qs Km)) Qv)
  (Qi (Xi (Jg (Xj (Xh cl_counted (hr.mono Dc) (Qa (Qo Qu (pv 2) Qf (fun _ _=>rfl)) (Qa Qf (Qa Qf Qe)))))) (Qi (Qs Km)) Qv))))
  (Qi (Qs (Yj Zf (Ql Qce rfl M.len Xl (Qa (Qz (Qfa rfl) rfl M.set_ bt_set (Qa (Zm ["_law_hold"] [none] rfl (Xn (pv 0)) (fun _ _ _=>(Qx (i:=0) (show(["_law_hold"]:List Str).Nodup by decide +kernel) rfl (Or.inl rfl) (Or.inr rfl))) (fun _ _ _=>Xy) (fun _ _ _=>(Qo (Jy (K:=K) rfl) (pv 0) Qf (fun _ _=>rfl)))) Qe)) Qe)) (Ql Qm rfl M.len Xl (Qa (pv 0) Qe)) (Qt _)))))),?_⟩
 have lv:=hpa.length
 rw[jQ]at lv
 have hz:(1000:Nat)<sizeLine:=Dc
 refine⟨_,rfl,_,"list",true,rfl,.list,.inr ⟨⟨_,hl⟩,rfl⟩,_,rfl,iteF ?_⟩
 let Pv23:Nat->St->Hp->Prop:=fun i σ H1=>(∃u:Option V,σ=[some (.ref l),some (.int (n:Int)),u])/\H=H1
 refine⟨_,rfl,l,rfl,⟨_,hl⟩,Ym (xs:=ws) Pv23 ⟨⟨none,rfl⟩,rfl⟩ (fun i σ H1 _ h=>by rw[<-h.2];exact hl) ?_ ?_⟩
 .rintro i x σ H1 e1 ⟨⟨u,rfl⟩,rfl⟩
  obtain⟨T,c,w,rfl,ec,hT⟩:=Jn hpa e1 (Same.refl _)
  obtain⟨g1,g2,g3⟩:=hG.ok (c,w) (yQ ec)
  have g1':0<=c:=g1
  have g2':c<(n:Int):=g2
  have g3':w=0\/w=1:=g3
  refine⟨_,rfl,_,"tuple",true,rfl,.tuple,.inl ⟨⟨_,hT⟩,rfl⟩,_,rfl,iteF ?_⟩
  refine⟨_,rfl,T,_,rfl,.inr hT,rfl,_,rfl,iteF ?_⟩
  refine⟨_,rfl,T,_,_,_,rfl,rfl,hT,at0,_,rfl,_,_,rfl,rfl,c,_,_,rfl,g1',Om,_,rfl,iteF ?_⟩
  exact⟨_,rfl,T,_,_,_,rfl,rfl,hT,at1,w,0,1,rfl,Om,Om,_,rfl,iteF ⟨⟨_,rfl⟩,rfl⟩⟩
 .rintro σ H1 ⟨⟨u,rfl⟩,rfl⟩
  have hl':SqL K H l ((ws.zip hs).map (·.1)):=by rw[List.map_fst_zip Om];exact hl
  have lz:(ws.zip hs).length=hs.length:=by rw[List.length_zip];lia
  refine⟨_,rfl,l,rfl,⟨_,hl⟩,fun D hD=>?_⟩
  refine Zi (xs:=ws.zip hs) (val:=(·.1)) V.int (fun p=>p.2.1) rfl (Zn hl') Om hD (fun p hp H2 s2 P h=>?_) fun H2 s2 h2=>?_
  .obtain⟨i,hi,e⟩:=kZd hp
   have e1:=gE hi
   rw[e,List.getElem?_zip_eq_some]at e1
   obtain⟨T,c,w,e3,ec,hT⟩:=Jn hpa e1.1 s2
   have ec':p.2=(c,w):=Option.some.inj (e1.2.symm.trans ec)
   have h':=h H2 fun _ _ z=>z
   rw[ec']at h'
   exact⟨_,rfl,T,_,_,_,e3,rfl,hT,at0,h'⟩
  have e4:(ws.zip hs).map (fun p=>p.2.1)=hs.map (·.1):=by
   rw[<-congrArg (List.map fun x:Int×Int=>x.1) (List.map_snd_zip (l₁:=ws) (l₂:=hs) Om),xW]
   rfl
  rw[e4]at h2
  refine⟨D,hs.map (·.1),rfl,Qh h2,by rw[jQ];lia,fun d S hd=>?_⟩
  have s3:=s2.trans (Qd hd (.set S ((hs.map (·.1)).foldl PyProof.Rows.step_dedup []).length))
  have dn:((hs.map (·.1)).foldl PyProof.Rows.step_dedup []).length=hs.length:=by rw[(Qki _).mpr hG.nd,jQ]
  have hd':upd H2 d (.set S ((hs.map (·.1)).foldl PyProof.Rows.step_dedup []).length) d=some (.set S ((hs.map (·.1)).foldl PyProof.Rows.step_dedup []).length):=Qc
  generalize upd H2 d (.set S ((hs.map (·.1)).foldl PyProof.Rows.step_dedup []).length)=H3 at s3 hd'⊢
  refine⟨d,S,_,rfl,hd',_,rfl,l,_,rfl,.inl (s3.seq hl),rfl,?_⟩
  rw[dn,show ws.length=hs.length from lv,kW rfl]
  exact q H3 s3
def spNo:Sp:=fun _ _ _ _=>False
theorem Vq(vs:List V)(H:Hp)(Q:V->Hp->Prop)(E:XK):¬spNo vs H Q E:=fun h=>h
theorem at10{x:V}:atI [x] 0=some x:=by rfl
theorem at30{x y z:V}:atI [x,y,z] 0=some x:=by rfl
theorem at31{x y z:V}:atI [x,y,z] 1=some y:=by rfl
theorem at32{x y z:V}:atI [x,y,z] 2=some z:=by rfl
theorem Qmh(cs:List Int):(cs.map fun c=>0-c)=cs.map fun c=>-c:=xZ fun c _=>Int.zero_sub c
abbrev sOne:Stmt:=top 42
theorem okOne(F:Fn K mg "_law_one" sOne)(M:Mg mg):Cal P w K mg base 1 "_law_one" ["_law_many","_law_choice","_law_number","_law_least"] (spNo):=Xt F (N:=_) (show FnScope ["_law_many","_law_choice","_law_number","_law_least"] ["_law_many","_law_choice","_law_number","_law_least"] (Qg sOne)from⟨rfl,rfl,rfl,Dk,rfl,Dk,Dk⟩) (fun _ _ _ _ _ _=>Qch (fun _ _ _ _=>rfl)) (fun vs H Q E h=>absurd h (Vq vs H Q E)) (fun f cdv A outer s H vs Q E hr h=>absurd h (Vq vs H Q E))
abbrev Qox:Stmt:=top 43
theorem okLike(F:Fn K mg "_law_like" Qox)(M:Mg mg):Cal P w K mg base 1 "_law_like" ["_law_problem_here","_law_turn"] (spNo):=Xt F (N:=_) (show FnScope ["_law_problem_here","_law_turn","_law_many","_law_numbers","_law_worth","_law_i"] ["_law_problem_here","_law_turn"] (Qg Qox)from⟨rfl,rfl,rfl,Dk,rfl,Dk,Dk⟩) (fun _ _ _ _ _ _=>Zo (fun _ _=>rfl)) (fun vs H Q E h=>absurd h (Vq vs H Q E)) (fun f cdv A outer s H vs Q E hr h=>absurd h (Vq vs H Q E))
abbrev Qoy:Stmt:=top 44
theorem okEith(F:Fn K mg "_law_either" Qoy)(M:Mg mg):Cal P w K mg base 1 "_law_either" ["_law_one_here","_law_other","_law_i"] (spNo):=Xt F (N:=_) (show FnScope ["_law_one_here","_law_other","_law_i"] ["_law_one_here","_law_other","_law_i"] (Qg Qoy)from⟨rfl,rfl,rfl,Dk,rfl,Dk,Dk⟩) (fun _ _ _ _ _ _=>Jv (fun _ _ _=>rfl)) (fun vs H Q E h=>absurd h (Vq vs H Q E)) (fun f cdv A outer s H vs Q E hr h=>absurd h (Vq vs H Q E))
abbrev Qmi:Stmt:=top 45
inductive Qqi(K:Fg)(vs:List V)(H:Hp)(Q:VK)(E:XK):Prop|mk(t u:Addr)(rs:List (List Int×Int))(cs:List Int)(o:Option Int)(_:vs=[.ref t,Vp o,.ref u])(_:ProbAt K H t rs cs)(_:cs.length<=1000)(_:((∃(k:Int) (r:List Int×Int),SqT K H u [.str "given",.int k]/\0<=k/\k<(rs.length:Int)/\rs[k.toNat]?=some r/\∀t',RowAt K H t' r->Q (.ref t') H)\/(∃b,o=some b/\SqT K H u [.str "better"]/\∀t' H',Same H H'->RowAt K H' t' (Za cs b)->Q (.ref t') H'))):Qqi K vs H Q E
theorem scTFst:FnScope ["_law_problem_here","_law_best_here","_law_line","_law_many"] ["_law_problem_here","_law_best_here","_law_line"] (Qg Qmi):=⟨rfl,rfl,rfl,Dk,rfl,Dk,Dk⟩
theorem okTFst (F:Fn K mg "_law_told_first" Qmi)(M:Mg mg)(cl_like:Cal P w K mg base 1 "_law_like" ["_law_problem_here","_law_turn"] (spNo))(cl_counted:Cal P w K mg base 2 "_law_counted" ["_law_thing","_law_low","_law_high"] (Qme))(cl_one:Cal P w K mg base 1 "_law_one" ["_law_many","_law_choice","_law_number","_law_least"] (spNo)):Cal P w K mg base 3 "_law_told_first" ["_law_problem_here","_law_best_here","_law_line"] (Qqi K):=by
 refine Xt F scTFst (fun _ _ _ _ _ _=>Jv (fun _ _ _=>rfl)) (fun vs H Q E h=>?_) (fun f cdv A outer s H vs Q E hr h=>?_)
 .obtain⟨t,u,rs,cs,o,rfl,_⟩:=h
  rfl
 obtain⟨t,u,rs,cs,o,rfl,hP,h7,hL⟩:=h
 have hu:(A.deeper (PyProof.Rows.envOfC "_law_told_first" (Qg Qmi) s.heap.objs.size f cdv)).units+1<cLine:=zQ (zZ Dc _) hr.un
 refine⟨_,(Qb (Qp (i:=3) scTFst.nd rfl (Or.inl rfl) (Ql Qm rfl M.len Xl (Qa (Qo Qu (pv 0) Qf (fun _ _=>rfl)) Qe)))
  (Qb (Xi (PW.pt (Yn (Qr Zf (Qo Qu (pv 2) Qf (fun _ _=>rfl)) Jf (Qt _)) (Zb (Qr Zf (Ql Qm rfl M.len Xl (Qa (pv 2) Qe)) Qf (Qt _))))) (Qi (Qs (Xh cl_like (hr.mono Dc) (Qa (pv 0) (Qa (Qo Qu (pv 2) Qf (fun _ _=>rfl)) Qe))))) Qv)
  (Qb (Xi (PW.pt (Yn (Qr Zf (Qo Qu (pv 2) Qf (fun _ _=>rfl)) Jf (Qt _)) (Yn (Qr Zf (Ql Qm rfl M.len Xl (Qa (pv 2) Qe)) Qf (Qt _)) (Zb (Xj (Xh cl_counted (hr.mono Dc) (Qa (Qo Qu (pv 2) Qf (fun _ _=>rfl)) (Qa Qf (Qa (Qn Xs (Ql Qm rfl M.len Xl (Qa (Qo Qu (pv 0) Qf (fun _ _=>rfl)) Qe)) Qf) Qe))))))))) (Qi (Qs (Qo Qw (Qo Qu (pv 0) Qf (fun _ _=>rfl)) (Qo Qu (pv 2) Qf (fun _ _=>rfl)) (fun _ _=>rfl)))) Qv)
  (Qb (Xi (PW.pt (Yn (Qr Zf (Qo Qu (pv 2) Qf (fun _ _=>rfl)) Jf (Qt _)) (Yn (Qr Zf (Ql Qm rfl M.len Xl (Qa (pv 2) Qe)) Qf (Qt _)) (Zb (Xj (Xh cl_counted (hr.mono Dc) (Qa (Qo Qu (pv 2) Qf (fun _ _=>rfl)) (Qa Qf (Qa (Qn Xs (pv 3) Qf) Qe))))))))) (Qi (Qs (Xh cl_one (hr.mono Dc) (Qa (pv 3) (Qa (Qo Qu (pv 2) Qf (fun _ _=>rfl)) (Qa Qf (Qa Qf Qe))))))) Qv)
  (Qb (Xi (PW.pt (Yn (Qr Zf (Qo Qu (pv 2) Qf (fun _ _=>rfl)) Jf (Qt _)) (Yn (Qr Zf (Ql Qm rfl M.len Xl (Qa (pv 2) Qe)) Qf (Qt _)) (Zb (Xj (Xh cl_counted (hr.mono Dc) (Qa (Qo Qu (pv 2) Qf (fun _ _=>rfl)) (Qa Qf (Qa (Qn Xs (pv 3) Qf) Qe))))))))) (Qi (Qs (Xh cl_one (hr.mono Dc) (Qa (pv 3) (Qa (Qo Qu (pv 2) Qf (fun _ _=>rfl)) (Qa (Ze Ya Qf) (Qa (Ze Ya Qf) Qe))))))) Qv)
  (Qb (Xi (PW.pt (Yn (Qr Zf (Qo Qu (pv 2) Qf (fun _ _=>rfl)) Jf (Qt _)) (Yn (Qr Zf (Ql Qm rfl M.len Xl (Qa (pv 2) Qe)) Qf (Qt _)) (Zb (Qr Wm (pv 1) Ye (Qt _)))))) (Qi (Qs (Xk (Qa (Qz Xe rfl M.tuple_ Yh (Qa (Zm ["_law_cost"] [none] rfl (Ki (Qo Qu (pv 0) Qf (fun _ _=>rfl))) (fun _ _ _=>(Qx (i:=0) (show(["_law_cost"]:List Str).Nodup by decide +kernel) rfl (Or.inl rfl) (Or.inr rfl))) (fun _ _ _=>Xy) (fun _ _ _=>(Qn Xs Qf (pv 0)))) Qe)) (Qa (Qn Xs Qf (pv 1)) Qe))))) Qv)
  (Qi (Qs Ye)))))))),?_⟩
 obtain⟨l,c,vs,ht,hl,hrw,hc⟩:=id hP
 have hz:(1000:Nat)<sizeLine:=Dc
 refine⟨_,rfl,t,_,_,_,rfl,rfl,ht,at1,c,_,rfl,.inr hc,?_⟩
 rcases hL with⟨k,r,hu,h0,h1,er,q⟩ | ⟨b,rfl,hu,q⟩
 .refine⟨_,rfl,u,_,_,_,rfl,rfl,hu,at0,rfl,_,rfl,ite2 (fun e=>absurd e Dk) (fun _=>iteF ?_)⟩
  have lu:=hrw.length
  obtain⟨t',et,hrow⟩:∃t',vs[k.toNat]?=some (.ref t')/\RowAt K H t' r:=by
   have hk:k.toNat<vs.length:=Om
   obtain⟨r',er',t',e,h⟩:=L2.Paired.getR hrw (gE hk)
   have:r'=r:=Option.some.inj (er'.symm.trans er)
   exact⟨t',by rw[gE hk,e],by rw[<-this];exact h⟩
  have ea:atI vs k=some (.ref t'):=by
   have:=Zw et
   rw[show((k.toNat:Nat):Int)=k by lia]at this
   exact this
  refine⟨_,rfl,u,_,_,_,rfl,rfl,hu,at0,rfl,_,rfl,ite2 (fun _=>?_) (fun e=>absurd Dk e)⟩
  refine⟨_,rfl,u,_,rfl,.inr hu,rfl,_,rfl,iteT ⟨_,rfl,u,_,_,_,rfl,rfl,hu,at1,_,rfl,t,_,_,_,rfl,rfl,ht,at0,l,_,rfl,.inl hl,_,_,rfl,rfl,k,0,_,rfl,h0,Om,_,rfl,iteT ?_⟩⟩
  exact⟨_,rfl,t,_,_,_,rfl,rfl,ht,at0,_,rfl,u,_,_,_,rfl,rfl,hu,at1,l,_,_,_,rfl,rfl,hl,ea,q t' hrow⟩
 .refine⟨_,rfl,u,_,_,_,rfl,rfl,hu,at10,rfl,_,rfl,ite2 (fun e=>absurd e Dk) (fun _=>iteF ?_)⟩
  refine⟨_,rfl,u,_,_,_,rfl,rfl,hu,at10,rfl,_,rfl,ite2 (fun e=>absurd e Dk) (fun _=>iteF ?_)⟩
  refine⟨_,rfl,u,_,_,_,rfl,rfl,hu,at10,rfl,_,rfl,ite2 (fun e=>absurd e Dk) (fun _=>iteF ?_)⟩
  refine⟨_,rfl,u,_,_,_,rfl,rfl,hu,at10,rfl,_,rfl,ite2 (fun e=>absurd e Dk) (fun _=>iteF ?_)⟩
  refine⟨_,rfl,u,_,_,_,rfl,rfl,hu,at10,rfl,_,rfl,ite2 (fun _=>?_) (fun e=>absurd Dk e)⟩
  refine⟨_,rfl,u,_,rfl,.inr hu,rfl,_,rfl,iteT ⟨_,rfl,rfl,_,rfl,iteT ?_⟩⟩
  refine⟨_,rfl,t,_,_,_,rfl,rfl,ht,at1,c,rfl,⟨_,hc⟩,fun D hD=>?_⟩
  refine Zi (xs:=cs) (val:=V.int) V.int (fun x=>0-x) rfl (Ke hc) Om hD (fun x hx H2 s2 P h=>⟨_,rfl,_,_,rfl,rfl,h H2 fun _ _ z=>z⟩) fun H2 s2 h2=>?_
  rw[Qmh]at h2
  refine⟨D,_,rfl,.inl ⟨Qh h2,fun l2 hl2=>⟨_,rfl,_,_,rfl,rfl,by show 2<=sizeLine;decide,fun t2 ht2=>?_⟩⟩⟩
  exact q t2 _ ((s2.trans (Qd hl2 _)).trans (Qd ht2 _)) (Qcq ht2)
end
end Nb
namespace L2
open PySem PySem.Spec PyProof.Rows PySem.SeqAt
section
variable{X:Cx}
theorem op_eqE(hu:X.A.units+6<cLine):OpR X (compareOp .Eq) (fun x y H Q=>∃(a b:Addr) (xs:List V),x=.ref a/\y=.ref b/\SqT X.K H a xs/\xs≠[]/\SqT X.K H b []/\Q (.bl false) H):=by
 intro pins sh σ H x y v u Q I rx ry h
 obtain⟨a,b,xs,rfl,rfl,h1,hne,h2,q⟩:=h
 cases rx
 cases ry
 obtain⟨its,r,pt,_⟩:=I.tuple h1
 obtain⟨its',r',pt',_⟩:=I.tuple h2
 have l1:=r.length
 have l2:=r'.length
 have l1':its.length=xs.length:=l1.symm
 have l2':its'.length=0:=l2.symm
 have l3:xs.length≠0:=fun z=>hne (jKf z)
 have key:∀j (h1:j<its.toArray.size) (h2:j<its'.toArray.size),EqAt X.A.in1 sh its.toArray[j] its'.toArray[j] true:=fun j h1 h2=>by
  rw[kX]at h2
  lia
 have rc:=RcAt.tuples (A:=X.A) pt pt' Om (e:=fun _=>true) key
 refine rc _ _ _ _ ⟨.bl _,H,I,rfl,?_⟩
 have e:(its.toArray.size == its'.toArray.size)=false:=by
  rw[kX,kX,l1',l2']
  exact beq_false_of_ne l3
 rw[e,Bool.and_false]
 exact q
end
end L2
namespace Nb
open PySem L2
abbrev Qhr:Stmt:=top 46
inductive Qqj(K:Fg)(vs:List V)(H:Hp)(Q:VK)(E:XK):Prop|mk(t h u:Addr)(rs:List (List Int×Int))(cs:List Int)(o:Option Int)(ws:List V)(hd:List (List Int×Int))(_:vs=[.ref t,Vp o,.ref h,.ref u])(_:ProbAt K H t rs cs)(_:cs.length<=1000)(_:SqL K H h ws)(_:RowsAre K H ws hd)(_:(∀r∈hd,r.1.length=cs.length))(_:((∃(k:Int) (r:List Int×Int),SqT K H u [.str "given",.int k]/\0<=k/\k<(rs.length:Int)/\rs[k.toNat]?=some r/\∀t' H',Same H H'->RowAt K H' t' r->Q (.ref t') H')\/(∃b,o=some b/\SqT K H u [.str "better"]/\∀t' H',Same H H'->RowAt K H' t' (Za cs b)->Q (.ref t') H') \/    (∃(g:Addr) (ps:List (Int×Int)),SqT K H u [.str "sum",.ref g]/\HoldsAt K H g ps/\ps≠[]/\(∀p∈ps,0<=p.1/\p.1<(hd.length:Int)/\0<=p.2/\p.2<2 ^ 64)/\∀t' H',Same H H'->RowAt K H' t' (Yg cs.length (ps.map (Qal hd)))->Q (.ref t') H') \/    (∃(k:Int) (g:Addr) (r:List Int×Int) (hs:List (Int×Int)),SqT K H u [.str "shut",.int k,.ref g]/\0<=k/\k<(hd.length:Int)/\hd[k.toNat]?=some r/\HoldsAt K H g hs/\Good cs.length hs/\hs.length<=1000/\roomF cs.length (hv hs) r<0/\∀t' H',Same H H'->RowAt K H' t' (Jr cs.length hs)->Q (.ref t') H'))):Qqj K vs H Q E
section
variable{P:Program}{w:World}{K:Fg}{mg:Str->Option Value}{base:Heap}
theorem scTldL:FnScope ["_law_problem_here","_law_best_here","_law_rows","_law_line","_law_many","_law_numbers","_law_least"] ["_law_problem_here","_law_best_here","_law_rows","_law_line"] (Qg Qhr):=⟨rfl,rfl,rfl,Dk,rfl,Dk,Dk⟩
theorem okTldL (F:Fn K mg "_law_told" Qhr)(M:Mg mg)(cl_are_parts:Cal P w K mg base 3 "_law_are_parts" ["_law_parts","_law_many"] (Qqh K))(cl_summed:Cal P w K mg base 1 "_law_summed" ["_law_many","_law_rows","_law_parts"] (Qsu K))(cl_counted:Cal P w K mg base 2 "_law_counted" ["_law_thing","_law_low","_law_high"] (Qme))(cl_told_first:Cal P w K mg base 3 "_law_told_first" ["_law_problem_here","_law_best_here","_law_line"] (Qqi K))(cl_whole:Cal P w K mg base 1 "_law_whole" ["_law_found"] (Wz))(cl_are_holds:Cal P w K mg base 3 "_law_are_holds" ["_law_holds_here","_law_many"] (spHdl K))(cl_most:Cal P w K mg base 1 "_law_most" ["_law_row_here","_law_holds_here"] (Qfl K))(cl_shut:Cal P w K mg base 1 "_law_shut" ["_law_many","_law_holds_here"] (Qfk K))(cl_either:Cal P w K mg base 1 "_law_either" ["_law_one_here","_law_other","_law_i"] (spNo)):Cal P w K mg base 4 "_law_told" ["_law_problem_here","_law_best_here","_law_rows","_law_line"] (Qqj K):=by
 refine Xt F scTldL (fun _ _ _ _ _ _=>Qch (fun _ _ _ _=>rfl)) (fun vs H Q E h=>?_) (fun f cdv A outer s H vs Q E hr h=>?_)
 .obtain⟨t,h,u,rs,cs,o,ws,hd,rfl,_⟩:=h
  rfl
 obtain⟨t,h,u,rs,cs,o,ws,hd,rfl,hP,h7,hw,hh,hdn,hL⟩:=h
 have hu6:(A.deeper (PyProof.Rows.envOfC "_law_told" (Qg Qhr) s.heap.objs.size f cdv)).units+6<cLine:=zQ (zZ Dc _) hr.un
 have hu:(A.deeper (PyProof.Rows.envOfC "_law_told" (Qg Qhr) s.heap.objs.size f cdv)).units+1<cLine:=zQ (zZ Dc _) hr.un
 refine⟨_,(Qb (Qp (i:=4) scTldL.nd rfl (Or.inl rfl) (Ql Qm rfl M.len Xl (Qa (Qo Qu (pv 0) Qf (fun _ _=>rfl)) Qe)))
  (Qb (Xi (PW.pt (Wh (Jg (Xj (Ql Ja rfl M.isinstance Xw (Qa (pv 3) (Qa (Qbs M.tuple_ Yh) Qe))))) (Kv (Qr (op_eqE hu6) (pv 3) (Xk Qe) (Qt _))))) (Qi (Qs Ye)) Qv)
  (Qb (Xi (PW.pt (Yn (Qr Zf (Qo Qu (pv 3) Qf (fun _ _=>rfl)) Jf (Qt _)) (Yn (Qr Zf (Ql Qm rfl M.len Xl (Qa (pv 3) Qe)) Qf (Qt _)) (Zb (Xj (Xh cl_are_parts (hr.mono Dc) (Qa (Qo Qu (pv 3) Qf (fun _ _=>rfl)) (Qa (Ql Qm rfl M.len Xl (Qa (pv 2) Qe)) Qe)))))))) (Qi (Qs (Xh cl_summed (hr.mono Dc) (Qa (pv 4) (Qa (pv 2) (Qa (Qo Qu (pv 3) Qf (fun _ _=>rfl)) Qe)))))) Qv)
  (Qb (Xi (PW.pt (Wh (Qr Jo (Ql Qm rfl M.len Xl (Qa (pv 3) Qe)) Qf (Qt _)) (Kv (Jg (Xj (Xh cl_counted (hr.mono Dc) (Qa (Qo Qu (pv 3) Qf (fun _ _=>rfl)) (Qa Qf (Qa (Qn Xs (Ql Qm rfl M.len Xl (Qa (pv 2) Qe)) Qf) Qe))))))))) (Qi (Qs (Xh cl_told_first (hr.mono Dc) (Qa (pv 0) (Qa (pv 1) (Qa (pv 3) Qe)))))) Qv)
  (Qb (Js (Qo Qw (pv 2) (Qo Qu (pv 3) Qf (fun _ _=>rfl)) (fun _ _=>rfl)) (Yu (K:=K) (i:=5) (j:=6) rfl rfl scTldL.nd rfl rfl rfl rfl))
  (Qb (Xi (PW.pt (Yn (Qr Zf (Qo Qu (pv 3) Qf (fun _ _=>rfl)) Jf (Qt _)) (Yn (Qr Zf (Ql Qm rfl M.len Xl (Qa (pv 3) Qe)) Qf (Qt _)) (Yn (Xj (Xh cl_whole (hr.mono Dc) (Qa (Qo Qu (pv 3) Qf (fun _ _=>rfl)) Qe))) (Zb (Qr Wk (Qo Qu (pv 3) Qf (fun _ _=>rfl)) Qf (Qt _))))))) (Qi (Xi (Xj (Ql (Ky rfl) rfl M.all Qga (Qa (Zm ["_law_number","_law_line"] [none,some 3] rfl (Ki (pv 5)) (fun _ _ _=>(Qx (i:=0) (show(["_law_number","_law_line"]:List Str).Nodup by decide +kernel) rfl (Or.inl rfl) (Or.inr rfl))) (fun _ _ _=>Xy) (fun _ _ _=>(Yj Zf (Qn Zd (pv 0) (Qo (Jy (K:=K) rfl) (pv 1) Qf (fun _ _=>rfl))) Qf (Qt _)))) Qe))) (Qi (Qs (Xk (Qa (Qz Xe rfl M.tuple_ Yh (Qa (Zm ["_law_number","_law_line"] [none,some 3] rfl (Ki (pv 5)) (fun _ _ _=>(Qx (i:=0) (show(["_law_number","_law_line"]:List Str).Nodup by decide +kernel) rfl (Or.inl rfl) (Or.inr rfl))) (fun _ _ _=>Xy) (fun _ _ _=>(Qn Zs (pv 0) (Qo (Jy (K:=K) rfl) (pv 1) Qf (fun _ _=>rfl))))) Qe)) (Qa (Qn Xs Qf (Qn Zs (Qn Xs Qf (pv 6)) (Qo Qu (pv 3) Qf (fun _ _=>rfl)))) Qe))))) Qv)) Qv)
  (Qb (Xi (PW.pt (Yn (Qr Zf (Qo Qu (pv 3) Qf (fun _ _=>rfl)) Jf (Qt _)) (Yn (Qr Zf (Ql Qm rfl M.len Xl (Qa (pv 3) Qe)) Qf (Qt _)) (Zb (Xj (Xh cl_are_holds (hr.mono Dc) (Qa (Qo Qu (pv 3) Qf (fun _ _=>rfl)) (Qa (pv 4) Qe)))))))) (Qi (Xi (Qr Jo (Xh cl_most (hr.mono Dc) (Qa (Xk (Qa (pv 5) (Qa (pv 6) Qe))) (Qa (Qo Qu (pv 3) Qf (fun _ _=>rfl)) Qe))) (pv 6) (Qt _)) (Qi (Qs (Xh cl_shut (hr.mono Dc) (Qa (pv 4) (Qa (Qo Qu (pv 3) Qf (fun _ _=>rfl)) Qe))))) Qv)) Qv)
  (Qb (Xi (PW.pt (Yn (Qr Zf (Qo Qu (pv 3) Qf (fun _ _=>rfl)) Jf (Qt _)) (Yn (Qr Zf (Ql Qm rfl M.len Xl (Qa (pv 3) Qe)) Qf (Qt _)) (Zb (Xj (Xh cl_counted (hr.mono Dc) (Qa (Qo Qu (pv 3) Qf (fun _ _=>rfl)) (Qa Qf (Qa (Qn Xs (Ql Qm rfl M.len Xl (Qa (pv 2) Qe)) Qf) Qe))))))))) (Qi (Xi (Xj (Xh cl_counted (hr.mono Dc) (Qa (Qo Qu (pv 3) Qf (fun _ _=>rfl)) (Qa Qf (Qa (Qn Xs (pv 4) Qf) Qe))))) (Qi (Qs (Xh cl_either (hr.mono Dc) (Qa (Xk (Qa (pv 5) (Qa (pv 6) Qe))) (Qa (Qo Qw (pv 2) (Qo Qu (pv 3) Qf (fun _ _=>rfl)) (fun _ _=>rfl)) (Qa (Qo Qu (pv 3) Qf (fun _ _=>rfl)) Qe)))))) Qv)) Qv)
  (Qi (Qs Ye)))))))))),?_⟩
 obtain⟨l,c,vs,ht,hl,hrw,hc⟩:=id hP
 have hz:(1000:Nat)<sizeLine:=Dc
 have lh:=hh.length
 have lc:(cs.map V.int).length=cs.length:=jQ ..
 refine⟨_,rfl,t,_,_,_,rfl,rfl,ht,at1,c,_,rfl,.inr hc,?_⟩
 rcases hL with⟨k,r,hu,h0,h1,er,q⟩ | ⟨b,rfl,hu,q⟩ | ⟨g,ps,hu,hg,hne,hps,q⟩ | ⟨k,g,r,hs,hu,h0,h1,er,hg,hG,hl7,hrm,q⟩
 .refine⟨_,rfl,_,"tuple",true,rfl,.tuple,.inl ⟨⟨_,hu⟩,rfl⟩,_,rfl,iteF ⟨_,rfl,by show 0<=sizeLine;decide,fun e he=>?_⟩⟩
  have s1:=Qd he (.tup [])
  refine⟨u,e,_,rfl,rfl,s1.tup hu,(by simp),Qy Qc,_,rfl,iteF ?_⟩
  refine⟨_,rfl,u,_,_,_,rfl,rfl,s1.tup hu,at0,rfl,_,rfl,ite2 (fun e=>absurd e Dk) (fun _=>iteF ?_)⟩
  refine⟨_,rfl,u,_,rfl,.inr (s1.tup hu),_,_,rfl,rfl,_,rfl,iteT (iteT ?_)⟩
  exact⟨_,rfl,_,rfl,_,rfl,t,u,rs,cs,o,rfl,ProbAt.same s1 hP,h7,.inl ⟨k,r,s1.tup hu,h0,h1,er,fun t' h=>q t' _ s1 h⟩⟩
 .refine⟨_,rfl,_,"tuple",true,rfl,.tuple,.inl ⟨⟨_,hu⟩,rfl⟩,_,rfl,iteF ⟨_,rfl,by show 0<=sizeLine;decide,fun e he=>?_⟩⟩
  have s1:=Qd he (.tup [])
  refine⟨u,e,_,rfl,rfl,s1.tup hu,(by simp),Qy Qc,_,rfl,iteF ?_⟩
  refine⟨_,rfl,u,_,_,_,rfl,rfl,s1.tup hu,at10,rfl,_,rfl,ite2 (fun e=>absurd e Dk) (fun _=>iteF ?_)⟩
  refine⟨_,rfl,u,_,rfl,.inr (s1.tup hu),_,_,rfl,rfl,_,rfl,iteT (iteT ?_)⟩
  exact⟨_,rfl,_,rfl,_,rfl,t,u,rs,cs,some b,rfl,ProbAt.same s1 hP,h7,.inr ⟨b,rfl,s1.tup hu,fun t' H' s2 h=>q t' H' (s1.trans s2) h⟩⟩
 .refine⟨_,rfl,_,"tuple",true,rfl,.tuple,.inl ⟨⟨_,hu⟩,rfl⟩,_,rfl,iteF ⟨_,rfl,by show 0<=sizeLine;decide,fun e he=>?_⟩⟩
  have s1:=Qd he (.tup [])
  refine⟨u,e,_,rfl,rfl,s1.tup hu,(by simp),Qy Qc,_,rfl,iteF ?_⟩
  refine⟨_,rfl,u,_,_,_,rfl,rfl,s1.tup hu,at0,rfl,_,rfl,ite2 (fun _=>?_) (fun e=>absurd Dk e)⟩
  refine⟨_,rfl,u,_,rfl,.inr (s1.tup hu),rfl,_,rfl,iteT ⟨_,rfl,u,_,_,_,rfl,rfl,s1.tup hu,at1,_,rfl,h,_,rfl,.inl (s1.seq hw),g,ps,_,rfl,hg.same s1,hne,fun p hp=>⟨(hps p hp).1,by have:=(hps p hp).2.1;lia,(hps p hp).2.2.1⟩,fun H2 s2=>⟨_,rfl,iteT ?_⟩⟩⟩
  have s12:=s1.trans s2
  exact⟨_,rfl,_,rfl,_,rfl,u,_,_,_,rfl,rfl,s12.tup hu,at1,h,g,cs.length,ws,hd,ps,by rw[lc];rfl,s12.seq hw,hh.imp fun _ _ z=>z.same s12,hg.same s12,Om,hdn,fun p hp=>⟨(hps p hp).1,(hps p hp).2.1,by have:=(hps p hp).2.2.1;lia,(hps p hp).2.2.2⟩,fun t' H' s3 hr'=>q t' H' (s12.trans s3) hr'⟩
 .refine⟨_,rfl,_,"tuple",true,rfl,.tuple,.inl ⟨⟨_,hu⟩,rfl⟩,_,rfl,iteF ⟨_,rfl,by show 0<=sizeLine;decide,fun e he=>?_⟩⟩
  have s1:=Qd he (.tup [])
  refine⟨u,e,_,rfl,rfl,s1.tup hu,(by simp),Qy Qc,_,rfl,iteF ?_⟩
  refine⟨_,rfl,u,_,_,_,rfl,rfl,s1.tup hu,at30,rfl,_,rfl,ite2 (fun e=>absurd e Dk) (fun _=>iteF ?_)⟩
  refine⟨_,rfl,u,_,rfl,.inr (s1.tup hu),_,_,rfl,rfl,_,rfl,iteF ⟨_,rfl,u,_,_,_,rfl,rfl,s1.tup hu,at31,_,rfl,h,_,rfl,.inl (s1.seq hw),_,_,rfl,rfl,k,0,_,rfl,h0,Om,_,rfl,iteF ?_⟩⟩
  obtain⟨t',et,c',r1,r2⟩:∃t',ws[k.toNat]?=some (.ref t')/\RowAt K H t' r:=by
   have hk:k.toNat<ws.length:=Om
   obtain⟨r',er',t',e,h⟩:=L2.Paired.getR hh (gE hk)
   have:r'=r:=Option.some.inj (er'.symm.trans er)
   exact⟨t',by rw[gE hk,e],by rw[<-this];exact h⟩
  have ea:atI ws k=some (.ref t'):=by
   have:=Zw et
   rw[show((k.toNat:Nat):Int)=k by lia]at this
   exact this
  refine⟨_,rfl,_,rfl,u,_,_,_,rfl,rfl,s1.tup hu,at31,h,_,_,_,rfl,rfl,s1.seq hw,ea,t',_,rfl,s1.tup r1,rfl,_,_,rfl,_,_,rfl,rfl,?_⟩
  refine⟨_,rfl,u,_,_,_,rfl,rfl,s1.tup hu,at30,rfl,_,rfl,ite2 (fun e=>absurd e Dk) (fun _=>iteF ?_)⟩
  refine⟨_,rfl,u,_,_,_,rfl,rfl,s1.tup hu,at30,rfl,_,rfl,ite2 (fun _=>?_) (fun e=>absurd Dk e)⟩
  refine⟨_,rfl,u,_,rfl,.inr (s1.tup hu),rfl,_,rfl,iteT ⟨_,rfl,u,_,_,_,rfl,rfl,s1.tup hu,at32,_,rfl,g,hs,cs.length,by rw[lc];rfl,hg.same s1,hG,hl7,fun H2 s2=>⟨_,rfl,iteT ?_⟩⟩⟩
  have s12:=s1.trans s2
  have lr:r.1.length=cs.length:=hdn r (yQ er)
  refine⟨_,rfl,_,rfl,by show 2<=sizeLine;decide,fun p hp=>?_⟩
  have s3:=Qd hp (.tup [.ref c',.int r.2])
  have s13:=s12.trans s3
  refine⟨_,rfl,u,_,_,_,rfl,rfl,s13.tup hu,at32,p,g,r,hs,rfl,⟨c',Qy Qc,s13.tup r2⟩,hg.same s13,by rw[lr];exact hG,Om,hl7,fun H4 s4=>?_⟩
  have s14:=s13.trans s4
  refine⟨_,rfl,_,_,rfl,rfl,true,congrArg V.bl (kW (by rw[lr];lia)),iteT ?_⟩
  exact⟨_,rfl,_,rfl,u,_,_,_,rfl,rfl,s14.tup hu,at32,g,cs.length,hs,by rw[lc];rfl,hg.same s14,hG,Om,hl7,fun t2 H' s5 hr'=>q t2 H' (s14.trans s5) hr'⟩
def Jb(m:Nat)(ts:List Int):List Nat:=(List.range m).filter fun k=>decide (0<ts.getD k 0)
def Jc(as:List Nat)(ts:List Int):List (Int×Int):=(List.range as.length).map fun i=>(((i:Nat):Int),ts.getD (as.getD i 0) 0)
def rowK(rs:List (List Int×Int))(k:Nat):List Int×Int:=rs.getD k ([],0)
def Xo(n:Nat)(rs:List (List Int×Int))(as:List Nat)(ts:List Int):List Int×Int:=Yg n (as.map fun k=>(rowK rs k,ts.getD k 0))
def BdAt(K:Fg)(H0 H:Hp)(L:Addr)(m:Nat)(as:List Nat)(ts:List Int)(hs:List (Int×Int)):Prop :=
 ∃(ls us ws:List V) (sA P hA G:Addr),H L=some (.lst (ls++[.ref sA,.ref hA]))/\Paired (fun v k=>∃t,v=V.ref t/\SqT K H t (Jz ((m:Nat):Int) ((k:Nat):Int))) ls as /\
  SqT K H sA [.str "sum",.ref P]/\H P=some (.lst us)/\PairsAre K H us ((Jc as ts).map fun p=>(p.1,V.int p.2)) /\
  SqT K H hA [.str "shut",.int ((as.length:Nat):Int),.ref G]/\H G=some (.lst ws)/\PairsAre K H ws (hs.map fun p=>(p.1,V.int p.2))/\H0 L=none/\H0 P=none/\H0 G=none/\L≠P/\L≠G/\P≠G
theorem Qhs{n:Nat}{rs:List (List Int×Int)}{as:List Nat}{ts:List Int}:Yg n ((Jc as ts).map (Qal (as.map (rowK rs))))=Xo n rs as ts:=by
 unfold Xo Jc
 congr 1
 refine kYe (by simp) fun i h1 h2=>?_
 rw[jQ]at h2
 rw[jJf,jJf,jJf,kXe]
 unfold Qal
 show((as.map (rowK rs)).getD (((i:Nat):Int)).toNat ([],0),ts.getD (as.getD i 0) 0)=_
 have ea:as.getD i 0=as[i]:=by rw[jZ,gE h2];rfl
 have eb:(as.map (rowK rs)).getD i ([],0)=rowK rs as[i]:=by rw[jZ,jJ,gE h2];rfl
 rw[zK,ea,eb]
abbrev Qmj:Stmt:=top 47
inductive Qqk(K:Fg)(vs:List V)(H:Hp)(Q:VK)(E:XK):Prop|mk(t L:Addr)(rs rsB:List (List Int×Int))(cs:List Int)(o:Option Int)(as:List Nat)(ts:List Int)(hs:List (Int×Int))(H0:Hp)(_:vs=[.ref t,Vp o,.ref L])(_:ProbAt K H t rs cs)(_:cs.length<=1000)(_:BdAt K H0 H L rs.length as ts hs)(_:(as≠[]/\as.length<=20/\hs.length<=1000/\rsB=Yb rs cs o))(_:(∀k∈as,k<rsB.length/\(0<=ts.getD k 0/\ts.getD k 0<2 ^ 64)/\(rowK rsB k).1.length=cs.length/\rsB[k]?=some (rowK rsB k)))(_:(Xo cs.length rsB as ts).1.length=cs.length)(_:Good cs.length hs)(_:roomF cs.length (hv hs) (Xo cs.length rsB as ts)<0)(_:∀t' H',Same H H'->RowAt K H' t' (Jr cs.length hs)->Q (.ref t') H'):Qqk K vs H Q E
theorem scLast:FnScope ["_law_problem_here","_law_best_here","_law_paper","_law_rows","_law_line","_law_row_here"] ["_law_problem_here","_law_best_here","_law_paper"] (Qg Qmj):=⟨rfl,rfl,rfl,Dk,rfl,Dk,Dk⟩
theorem okLast (F:Fn K mg "_law_last" Qmj)(M:Mg mg)(cl_told:Cal P w K mg base 4 "_law_told" ["_law_problem_here","_law_best_here","_law_rows","_law_line"] (Qqj K)):Cal P w K mg base 5 "_law_last" ["_law_problem_here","_law_best_here","_law_paper"] (Qqk K):=by
 refine Xt F scLast (fun _ _ _ _ _ _=>Jv (fun _ _ _=>rfl)) (fun vs H Q E h=>?_) (fun f cdv A outer s H vs Q E hr h=>?_)
 .obtain⟨t,L,rs,rsB,cs,o,as,ts,hs,H0,rfl,_⟩:=h
  rfl
 obtain⟨t,L,rs,rsB,cs,o,as,ts,hs,H0,rfl,hP,h7,hB,ha1,has,htl,hG,hrm,q⟩:=h
 have hu6:(A.deeper (PyProof.Rows.envOfC "_law_last" (Qg Qmj) s.heap.objs.size f cdv)).units+6<cLine:=zQ (zZ Dc _) hr.un
 refine⟨_,(Qb (Xi (Jg (Xj (Ql Ja rfl M.isinstance Xw (Qa (pv 2) (Qa (Qbs M.list_ Yv) Qe))))) (Qi (Qs Ye)) Qv)
  (Qb (Qp (i:=3) scLast.nd rfl (Or.inl rfl) (Xz Qe))
  (Qb (Yf PassesOwn.never rfl (Xn (pv 2)) (Qx (i:=4) scLast.nd rfl (Or.inl rfl) (Or.inl rfl)) (Qb (Qp (i:=5) scLast.nd rfl (Or.inl rfl) (Xh cl_told (hr.mono Dc) (Qa (pv 0) (Qa (pv 1) (Qa (pv 3) (Qa (pv 4) Qe))))))
  (Qb (Xi (Qr Wl (pv 5) Ye (Qt _)) (Qi (Qs Ye)) Qv)
  (Qi (Ys (Vw PySem.F.plainAttrs_list PySem.F.slot_list_append PySem.F.type_list_append Yp (pv 3) (Qa (pv 5) Qe)))))))
  (Qb (Xi (Qr (Qju (n:=6) hu6) (pv 3) (Xz Qe) (Qt _)) (Qi (Qs Ye)) Qv)
  (Qi (Qs (Qo Qw (pv 3) (Ze Ya Qf) (fun _ _=>rfl)))))))),?_⟩
 obtain⟨ls,us,ws,sA,P',hA,G,hL,hls,hsA,hP',hus,hhA,hG',hws,_⟩:=hB
 have hz:(1000:Nat)<sizeLine:=Dc
 have ll:=Paired.length hls
 refine⟨_,rfl,_,"list",true,rfl,.list,.inr ⟨⟨_,Qh hL⟩,rfl⟩,_,rfl,iteF ?_⟩
 refine⟨by show 0<=sizeLine;decide,fun R hR=>?_⟩
 have s0:=Qd hR (.lst [])
 have lpk:(Jc as ts).length=as.length:=by unfold Jc;rw[jQ,jV]
 let Pv24:Nat->St->Hp->Prop:=fun i σ H1=>∃(u v:Option V) (zs:List V),σ=[some (.ref t),some (Vp o),some (.ref L),some (.ref R),u,v]/\H1 R=some (.lst zs)/\RowsAre K H1 zs ((as.map (rowK rsB)++[Xo cs.length rsB as ts,Jr cs.length hs]).take i)/\Same H H1
 refine⟨_,rfl,L,rfl,⟨_,Qh (s0 _ _ hL)⟩,Ym (K:=K) (xs:=ls++[.ref sA,.ref hA]) Pv24 ⟨none,none,[],rfl,Qc,.nil,s0⟩ (fun i σ H1 _ h=>?_) ?_ ?_⟩
 .obtain⟨u,v,zs,_,_,_,s1⟩:=h
  exact Qh (s1 _ _ hL)
 .rintro i x σ H1 e1 ⟨u,v,zs,rfl,hR1,hzs,s1⟩
  have lz:=hzs.length
  rw[xJ,kZ,jQ]at lz
  have hiL:=(jW.mp e1).1
  rw[kZ]at hiL
  have hiL':i<ls.length+2:=hiL
  have hdn:∀r∈(as.map (rowK rsB)++[Xo cs.length rsB as ts,Jr cs.length hs]).take i,r.1.length=cs.length:=fun r hr'=>by
   rcases zY.mp (kZb hr')with y | y
   .obtain⟨k,hk,e⟩:=kY.mp y
    rw[<-e];exact(has k hk).2.2.1
   .rcases kQ.mp y with e | e
    .rw[e];exact htl
    .rw[yW.mp e];exact Qos _ _
  -- what follows a line that was told
  have go:∀(r:List Int×Int) (t':Addr) (H2:Hp),(as.map (rowK rsB)++[Xo cs.length rsB as ts,Jr cs.length hs])[i]?=some r->Same H1 H2->RowAt K H2 t' r->∃(u v:Option V) (zs':List V),([some (.ref t),some (Vp o),some (.ref L),some (.ref R),some x,some (.ref t')]:St)=[some (.ref t),some (Vp o),some (.ref L),some (.ref R),u,v]/\upd H2 R (.lst (zs++[.ref t'])) R=some (.lst zs')/\RowsAre K (upd H2 R (.lst (zs++[.ref t']))) zs' ((as.map (rowK rsB)++[Xo cs.length rsB as ts,Jr cs.length hs]).take (i+1))/\Same H (upd H2 R (.lst (zs++[.ref t']))):=fun r t' H2 er s2 hr'=>by
   refine⟨_,_,_,rfl,Qc,?_,fun b o' e=>?_⟩
   .rw[Qcd er]
    have h3:=RowsAre.snoc (hzs.imp fun _ _ z=>z.same s2) hr'
    exact h3.imp fun _ _ z=>RowAt.upd (s2 _ _ hR1) z
   .rw[Qj (Qk e hR)];exact s2 _ _ (s1 _ _ e)
  have lzs:zs.length<=100:=Om
  by_cases c1:i<ls.length
  .rw[jZa c1]at e1
   obtain⟨k,ek,t1,rfl,hT1⟩:=L2.Paired.getR hls e1
   have hk:=has k (yQ ek)
   have eA:(as.map (rowK rsB)++[Xo cs.length rsB as ts,Jr cs.length hs])[i]?=some (rowK rsB k):=by
    rw[jZa (by rw[jQ];lia),jJ,ek];rfl
   refine⟨_,rfl,_,rfl,_,rfl,_,rfl,t,R,t1,rs,cs,o,zs,_,rfl,ProbAt.same s1 hP,h7,Qh hR1,hzs,hdn,?_⟩
   by_cases c2:((k:Nat):Int)<((rs.length:Nat):Int)
   .refine .inl ⟨((k:Nat):Int),rowK rsB k,?_,Om,c2,?_,fun t' H2 s2 hr'=>?_⟩
    .have:=s1.tup hT1
     unfold Jz at this
     rw[if_pos c2]at this
     exact this
    .rw[zK,<-hk.2.2.2,ha1.2.2.2]
     cases o with
     |none=>rfl
     |some b=>exact(jZa Om).symm
    .exact⟨_,rfl,rfl,_,rfl,iteF ⟨_,rfl,.inl ⟨rfl,_,Qh (s2 _ _ hR1)⟩,_,rfl,R,zs,_,rfl,rfl,s2 _ _ hR1,Om,go _ _ _ eA s2 hr'⟩⟩
   .have hkl:=hk.1
    rw[ha1.2.2.2]at hkl
    cases o with
    |none=>
     have:k<rs.length:=hkl
     lia
    |some b=>
     have hkl':k<(rs++[Za cs b]).length:=hkl
     rw[kZ]at hkl'
     have hkl2:k<rs.length+1:=hkl'
     have ek2:k=rs.length:=Om
     have er:rowK rsB k=Za cs b:=by
      have:=hk.2.2.2
      rw[ha1.2.2.2]at this
      have h5:(rs++[Za cs b])[k]?=some (rowK (Yb rs cs (some b)) k):=this
      rw[ek2,wZ (jY _),kZf]at h5
      rw[ha1.2.2.2,ek2]
      exact(Option.some.inj h5).symm
     refine .inr (.inl ⟨b,rfl,?_,fun t' H2 s2 hr'=>?_⟩)
     .have:=s1.tup hT1
      unfold Jz at this
      rw[if_neg c2]at this
      exact this
     .rw[<-er]at hr'
      exact⟨_,rfl,rfl,_,rfl,iteF ⟨_,rfl,.inl ⟨rfl,_,Qh (s2 _ _ hR1)⟩,_,rfl,R,zs,_,rfl,rfl,s2 _ _ hR1,Om,go _ _ _ eA s2 hr'⟩⟩
  .rw[wZ Om]at e1
   by_cases c2:i=ls.length
   .rw[c2,kZf]at e1
    cases e1
    have eT:(as.map (rowK rsB)++[Xo cs.length rsB as ts,Jr cs.length hs]).take i=as.map (rowK rsB):=by
     rw[c2,ll];exact List.take_left' (by rw[jQ])
    have eA:(as.map (rowK rsB)++[Xo cs.length rsB as ts,Jr cs.length hs])[i]?=some (Xo cs.length rsB as ts):=by
     rw[wZ (by rw[jQ];lia),jQ,c2,ll,kZf];rfl
    refine⟨_,rfl,_,rfl,_,rfl,_,rfl,t,R,sA,rs,cs,o,zs,_,rfl,ProbAt.same s1 hP,h7,Qh hR1,hzs,hdn,.inr (.inr (.inl ⟨P',Jc as ts,s1.tup hsA,⟨us,Qh (s1 _ _ hP'),PairsAre.same s1 hus⟩,?_,fun p hp=>?_,fun t' H2 s2 hr'=>?_⟩))⟩
    .intro z
     rw[z]at lpk
     exact ha1.1 (jKf lpk.symm)
    .unfold Jc at hp
     obtain⟨y,hy,e⟩:=kY.mp hp
     have hy':=xX.mp hy
     have hk:=has (as.getD y 0) (by rw[jZ,gE hy'];exact jQf _)
     rw[eT,jQ,<-e]
     exact⟨by show(0:Int)<=((y:Nat):Int);lia,by show((y:Nat):Int)<_;lia,hk.2.1⟩
    .rw[eT,Qhs]at hr'
     exact⟨_,rfl,rfl,_,rfl,iteF ⟨_,rfl,.inl ⟨rfl,_,Qh (s2 _ _ hR1)⟩,_,rfl,R,zs,_,rfl,rfl,s2 _ _ hR1,Om,go _ _ _ eA s2 hr'⟩⟩
   .have c3:i=ls.length+1:=Om
    rw[c3,Nat.add_sub_cancel_left]at e1
    cases e1
    have eA:(as.map (rowK rsB)++[Xo cs.length rsB as ts,Jr cs.length hs])[i]?=some (Jr cs.length hs):=by
     rw[wZ (by rw[jQ];lia),jQ,c3,ll,Nat.add_sub_cancel_left];rfl
    have eB:((as.map (rowK rsB)++[Xo cs.length rsB as ts,Jr cs.length hs]).take i)[as.length]?=some (Xo cs.length rsB as ts):=by
     rw[List.getElem?_take_of_lt Om,wZ (by rw[jQ];lia),jQ,kZf];rfl
    have lB:=(jW.mp eB).1
    refine⟨_,rfl,_,rfl,_,rfl,_,rfl,t,R,hA,rs,cs,o,zs,_,rfl,ProbAt.same s1 hP,h7,Qh hR1,hzs,hdn,.inr (.inr (.inr ⟨((as.length:Nat):Int),G,Xo cs.length rsB as ts,hs,s1.tup hhA,Om,Om,by rw[zK];exact eB,⟨ws,Qh (s1 _ _ hG'),PairsAre.same s1 hws⟩,hG,ha1.2.2.1,hrm,fun t' H2 s2 hr'=>?_⟩))⟩
    exact⟨_,rfl,rfl,_,rfl,iteF ⟨_,rfl,.inl ⟨rfl,_,Qh (s2 _ _ hR1)⟩,_,rfl,R,zs,_,rfl,rfl,s2 _ _ hR1,Om,go _ _ _ eA s2 hr'⟩⟩
 .rintro σ H1 ⟨u,v,zs,rfl,hR1,hzs,s1⟩
  have e2:(as.map (rowK rsB)++[Xo cs.length rsB as ts,Jr cs.length hs]).take (ls++[V.ref sA,.ref hA]).length=as.map (rowK rsB)++[Xo cs.length rsB as ts,Jr cs.length hs]:=jXc (by rw[kZ,kZ,jQ];show as.length+2<=ls.length+2;lia)
  rw[e2]at hzs
  have lz:=hzs.length
  rw[kZ,jQ]at lz
  have lz':zs.length=as.length+2:=lz
  refine⟨_,rfl,by show 0<=sizeLine;decide,fun e he=>?_⟩
  have s2:=Qd he (.lst [])
  refine⟨R,e,_,_,rfl,rfl,RowsAre.hasD (Qh (s2 _ _ hR1)) (hzs.imp fun _ _ z=>z.same s2),Qqg Qc,Qgt,fun c' hc'=>?_⟩
  have ec:c'=false:=by
   cases c' with
   |false=>rfl
   |true=>
    have e5:=hc'.mp rfl
    injection e5 with e5
    have:=congrArg List.length e5
    rw[jQ,kZ]at this
    simp at this
  rw[ec]
  have hl1:zs.length-1<zs.length:=Om
  obtain⟨r',er',t',e6,h6⟩:=L2.Paired.getR hzs (gE hl1)
  have er2:(as.map (rowK rsB)++[Xo cs.length rsB as ts,Jr cs.length hs])[zs.length-1]?=some (Jr cs.length hs):=by
   rw[wZ (by rw[jQ];lia),jQ,lz',show as.length+2-1-as.length=1 by lia];rfl
  have er3:r'=Jr cs.length hs:=Option.some.inj (er'.symm.trans er2)
  subst er3
  refine⟨_,rfl,iteF ⟨_,rfl,_,rfl,R,_,_,_,rfl,rfl,Qh (s2 _ _ hR1),?_,q t' _ (s1.trans s2) (h6.same s2)⟩⟩
  have e7:zs=zs.dropLast++[.ref t']:=by
   have hne:zs≠[]:=fun z=>by rw[z]at lz';cases lz'
   rw[<-e6,<-List.getLast_eq_getElem hne]
   exact(List.dropLast_concat_getLast hne).symm
  show atI zs (-1)=_
  rw[e7]
  exact Qfv _ _
structure EmpI(K:Fg)(H0 H H1:Hp)(L P G:Addr)(xs:List V)(c:Nat):Prop where
 ll:H1 L=some (.lst xs)
 tt:∀t zs,SqT K H t zs->SqT K H1 t zs
 pp:∃zs,H1 P=some (.lst zs)/\zs.length<=2000+c
 gg:∃zs,H1 G=some (.lst zs)/\zs.length<=2000+c
 s0:Same H0 H1
theorem EmpI.more{K:Fg}{H0 H H1:Hp}{L P G:Addr}{xs:List V}{c d:Nat}(h:EmpI K H0 H H1 L P G xs c)(hc:c<=d):EmpI K H0 H H1 L P G xs d :=
 ⟨h.ll,h.tt,let ⟨z,a,b⟩:=h.pp;⟨z,a,Om⟩,let ⟨z,a,b⟩:=h.gg;⟨z,a,Om⟩,h.s0⟩
theorem EmpI.new{K:Fg}{H0 H H1:Hp}{L P G:Addr}{xs:List V}{c:Nat}(h:EmpI K H0 H H1 L P G xs c){T:Addr}(hT:H1 T=none)(o:HO):EmpI K H0 H (upd H1 T o) L P G xs c :=
 have s:=Qd hT o
 ⟨s _ _ h.ll,fun t zs z=>s.tup (h.tt t zs z),let ⟨z,a,b⟩:=h.pp;⟨z,s _ _ a,b⟩,let ⟨z,a,b⟩:=h.gg;⟨z,s _ _ a,b⟩,h.s0.trans s⟩
theorem EmpI.add{K:Fg}{H0 H H1:Hp}{L P G:Addr}{xs:List V}{c:Nat}(h:EmpI K H0 H H1 L P G xs c)(nLP:L≠P)(nLG:L≠G)(nPG:P≠G)(h0P:H0 P=none)(h0G:H0 G=none){D:Addr}(hD:D=P\/D=G){zs:List V}(hz:H1 D=some (.lst zs))(v:V):EmpI K H0 H (upd H1 D (.lst (zs++[v]))) L P G xs (c+1):=by
 have lz:zs.length<=2000+c:=by
  rcases hD with rfl | rfl
  .obtain⟨z,a,b⟩:=h.pp
   rw[a]at hz;cases hz;exact b
  .obtain⟨z,a,b⟩:=h.gg
   rw[a]at hz;cases hz;exact b
 have lz':(zs++[v]).length<=2000+(c+1):=by rw[kZ];show zs.length+1<=_;lia
 refine⟨?_,fun t ys z=>Yx hz (h.tt t ys z),?_,?_,fun b o e=>?_⟩
 .rw[Qj (by rcases hD with rfl | rfl<;>assumption)];exact h.ll
 .rcases hD with rfl | rfl
  .exact⟨_,Qc,lz'⟩
  .obtain⟨z,a,b⟩:=h.pp
   exact⟨z,by rw[Qj nPG];exact a,Om⟩
 .rcases hD with rfl | rfl
  .obtain⟨z,a,b⟩:=h.gg
   exact⟨z,by rw[Qj nPG.symm];exact a,Om⟩
  .exact⟨_,Qc,lz'⟩
 .rw[Qj (Qk e (by rcases hD with rfl | rfl<;>assumption))];exact h.s0 _ _ e
abbrev sEmp:Stmt:=top 48
inductive spEmp(K:Fg)(vs:List V)(H:Hp)(Q:VK)(E:XK):Prop|mk(L:Addr)(m:Nat)(as:List Nat)(ts:List Int)(hs:List (Int×Int))(H0:Hp)(_:vs=[.ref L])(_:BdAt K H0 H L m as ts hs)(_:as.length<=20)(_:hs.length<=1000)(_:Same H0 H)(_:∀H',Same H0 H'->Q .non H'):spEmp K vs H Q E
theorem scEmp:FnScope ["_law_paper","_law_line","_law_thing"] ["_law_paper"] (Qg sEmp):=⟨rfl,rfl,rfl,Dk,rfl,Dk,Dk⟩
theorem okEmp (F:Fn K mg "_law_emptied" sEmp)(M:Mg mg):Cal P w K mg base 1 "_law_emptied" ["_law_paper"] (spEmp K):=by
 refine Xt F scEmp (fun _ _ _ _ _ _=>bind1 (fun _=>rfl)) (fun vs H Q E h=>?_) (fun f cdv A outer s H vs Q E hr h=>?_)
 .obtain⟨L,m,as,ts,hs,H0,rfl,_⟩:=h
  rfl
 obtain⟨L,m,as,ts,hs,H0,rfl,hB,ha,hh7,s0,q⟩:=h
 refine⟨_,(Qb (Yf PassesOwn.never rfl (Xn (pv 0)) (Qx (i:=1) scEmp.nd rfl (Or.inl rfl) (Or.inl rfl)) (Qi (Yf PassesOwn.never rfl (Ki (pv 1)) (Qx (i:=2) scEmp.nd rfl (Or.inl rfl) (Or.inl rfl)) (Qi (Xi (Xj (Ql Ja rfl M.isinstance Xw (Qa (pv 2) (Qa (Qbs M.list_ Yv) Qe)))) (Qi (Ys (Vw PySem.F.plainAttrs_list PySem.F.slot_list_append PySem.F.type_list_append Yp (pv 2) (Qa (Xk (Qa Qf (Qa Qf Qe))) Qe)))) Qv)))))
  (Qi (Ys (Vw PySem.F.plainAttrs_list PySem.F.slot_list_append PySem.F.type_list_append Yp (pv 0) (Qa (Xk (Qa Jf (Qa Qf Qe))) Qe))))),?_⟩
 obtain⟨ls,us,ws,sA,P',hA,G,hL,hls,hsA,hP',hus,hhA,hG',hws,n0L,n0P,n0G,nLP,nLG,nPG⟩:=hB
 have hz:(10000:Nat)<sizeLine:=Dc
 have ll:=Paired.length hls
 have lu:=hus.length
 have lw:=hws.length
 rw[jQ]at lu lw
 have lpk:(Jc as ts).length=as.length:=by unfold Jc;rw[jQ,jV]
 have lines:∀x∈ls++[V.ref sA,.ref hA],∃t zs,x=V.ref t/\SqT K H t zs/\zs.length<=3/\∀v∈zs,(∃s,v=V.str s)\/(∃k,v=V.int k)\/∃D,v=V.ref D/\(D=P'\/D=G):=fun x hx=>by
  rcases zY.mp hx with y | y
  .obtain⟨i,hi,e⟩:=kZd y
   obtain⟨k,ek,t,et,ht⟩:=L2.Paired.getR hls (gE hi)
   refine⟨t,_,by rw[<-e];exact et,ht,?_,fun v hv=>?_⟩
   .unfold Jz
    split
    .show 2<=3;decide
    .show 1<=3;decide
   .unfold Jz at hv
    split at hv
    .rcases kQ.mp hv with e | e
     .exact .inl ⟨_,e⟩
     .exact .inr (.inl ⟨_,yW.mp e⟩)
    .exact .inl ⟨_,yW.mp hv⟩
  .rcases kQ.mp y with e | e
   .refine⟨sA,_,e,hsA,by show 2<=3;decide,fun v hv=>?_⟩
    rcases kQ.mp hv with e | e
    .exact .inl ⟨_,e⟩
    .exact .inr (.inr ⟨P',yW.mp e,.inl rfl⟩)
   .refine⟨hA,_,yW.mp e,hhA,by show 3<=3;decide,fun v hv=>?_⟩
    rcases kQ.mp hv with e | e
    .exact .inl ⟨_,e⟩
    .rcases kQ.mp e with e | e
     .exact .inr (.inl ⟨_,e⟩)
     .exact .inr (.inr ⟨G,yW.mp e,.inr rfl⟩)
 have lx:(ls++[V.ref sA,.ref hA]).length=ls.length+2:=by rw[kZ];rfl
 generalize ls++[V.ref sA,.ref hA]=xs at hL lines lx
 let Pv25:Nat->St->Hp->Prop:=fun i σ H1=>(∃u v:Option V,σ=[some (.ref L),u,v])/\EmpI K H0 H H1 L P' G xs (4*i)
 refine⟨_,rfl,L,rfl,⟨_,Qh hL⟩,Ym (K:=K) (xs:=xs) Pv25 ⟨⟨none,none,rfl⟩,hL,fun _ _ z=>z,⟨us,hP',Om⟩,⟨ws,hG',Om⟩,s0⟩ (fun i σ H1 _ h=>Qh h.2.ll) ?_ ?_⟩
 .rintro i x σ H1 e1 ⟨⟨u,v,rfl⟩,I⟩
  have hi:=(jW.mp e1).1
  obtain⟨t,zs,rfl,ht,lz,hzs⟩:=lines x (yQ e1)
  refine⟨_,rfl,t,rfl,⟨_,I.tt _ _ ht⟩,Qrf (xs:=zs) (fun j σ H2=>(∃u v:Option V,σ=[some (.ref L),u,v])/\EmpI K H0 H H2 L P' G xs (4*i+j)) ⟨⟨_,_,rfl⟩,I⟩ (fun j σ H2 _ h=>h.2.tt _ _ ht) ?_ ?_⟩
  .rintro j y σ H2 e2 ⟨⟨u',v',rfl⟩,J⟩
   have hj:=(jW.mp e2).1
   rcases hzs y (yQ e2)with⟨s,rfl⟩ | ⟨k,rfl⟩ | ⟨D,rfl,hD⟩
   .exact⟨_,rfl,_,"list",false,rfl,.list,rfl,_,rfl,iteF ⟨⟨_,_,rfl⟩,J.more Om⟩⟩
   .exact⟨_,rfl,_,"list",false,rfl,.list,rfl,_,rfl,iteF ⟨⟨_,_,rfl⟩,J.more Om⟩⟩
   .obtain⟨zl,hzl,lzl⟩:∃zl,H2 D=some (.lst zl)/\zl.length<=2000+(4*i+j):=by
     rcases hD with e | e
     .rw[e];exact J.pp
     .rw[e];exact J.gg
    refine⟨_,rfl,_,"list",true,rfl,.list,.inr ⟨⟨_,Qh hzl⟩,rfl⟩,_,rfl,iteT ?_⟩
    refine⟨_,rfl,.inl ⟨rfl,_,Qh hzl⟩,by show 2<=sizeLine;decide,fun T hT=>?_⟩
    have s2:=Qd hT (.tup [.int 99,.int 1])
    refine⟨D,zl,_,rfl,rfl,s2 _ _ hzl,Om,⟨_,_,rfl⟩,?_⟩
    exact(J.new hT _).add nLP nLG nPG n0P n0G hD (s2 _ _ hzl) _
  .rintro σ H2 ⟨⟨u',v',rfl⟩,J⟩
   exact⟨⟨_,_,rfl⟩,J.more Om⟩
 .rintro σ H1 ⟨⟨u,v,rfl⟩,I⟩
  refine⟨_,rfl,.inl ⟨rfl,_,Qh I.ll⟩,by show 2<=sizeLine;decide,fun T hT=>?_⟩
  have s2:=Qd hT (.tup [.str "given",.int 0])
  refine⟨L,xs,_,rfl,rfl,s2 _ _ I.ll,Om,q _ fun b o e=>?_⟩
  rw[Qj (Qk e n0L)]
  exact s2 _ _ (I.s0 _ _ e)
theorem Kq{α β:Type}{R:α->β->Prop}{xs:List α}{ys:List β}{x:α}{y:β}(h:Paired R xs ys)(z:R x y):Paired R (xs++[x]) (ys++[y]):=by
 induction h with
 |nil=>exact .cons z .nil
 |cons a b ih=>exact .cons a ih
theorem PairsAre.imp'{K:Fg}{H H':Hp}{ws:List V}{ps:List (Int×V)}(h:PairsAre K H ws ps)(f:∀t xs,SqT K H t xs->SqT K H' t xs):PairsAre K H' ws ps:=Paired.mapP h fun _ _ ⟨t,e,z⟩=>⟨t,e,f _ _ z⟩
theorem Qoz{K:Fg}{H H':Hp}{L D t:Addr}{us zs:List V}{kvs:List (Key×V)}(hL:H L=some (.lst us))(hD:H D=some (.dK kvs))(kp:∀b o,H b=some o->b≠L->b≠D->H' b=some o)(h:SqT K H t zs):SqT K H' t zs:=by
 rcases h with(h | ⟨u,h⟩) | h
 .exact .inl (.inl (kp _ _ h (fun z=>by rw[z,hL]at h;cases h) (fun z=>by rw[z,hD]at h;cases h)))
 .exact .inl (.inr ⟨u,kp _ _ h (fun z=>by rw[z,hL]at h;cases h) (fun z=>by rw[z,hD]at h;cases h)⟩)
 .exact .inr h
abbrev sBdL:Stmt:=top 24
def spBdL(K:Fg):Sp:=fun vs H Q _=>∃(t l mu w h:Addr) (rs:List (List Int×Int)) (cs:List Int) (o:Option Int) (q0:Int) (qs:List Int) (hs:List (Int×Int)),vs=[.ref t,Vp o,.ref mu,.ref h]/\ProbL K H t l rs cs/\cs.length<=7/\rs.length<=7/\SqT K H mu [.int q0,.ref w]/\SqT K H w (qs.map V.int)/\HoldsAt K H h hs/\Good cs.length hs/\hs.length<=100/\qs.length=rs.length/\(∀q∈qs++[q0],0<=q/\q<2 ^ 64)/\(∀r∈rs,r.1.length=cs.length) /\
 (0<=roomF cs.length (hv hs) (Xo cs.length (Yb rs cs o) (Jb (Yb rs cs o).length (qs++[q0])) (qs++[q0]))->∀H',Same H H'->Q .non H') /\
 (roomF cs.length (hv hs) (Xo cs.length (Yb rs cs o) (Jb (Yb rs cs o).length (qs++[q0])) (qs++[q0]))<0->∀L H',Same H H'->BdAt K H H' L rs.length (Jb (Yb rs cs o).length (qs++[q0])) (qs++[q0]) hs->Q (.ref L) H')
theorem scBdL:FnScope ["problem","best","multipliers","holds","rows","times","asked","total","sheet","parts","source"] ["problem","best","multipliers","holds"] (Qg sBdL):=⟨rfl,rfl,rfl,Dk,rfl,Dk,Dk⟩
theorem okBdL{C fI fP fL:Addr}{fdI fdP fdL:FuncData}(T:ShTxt K mg C)(mI:Mk K C fI)(G_init:FnOk P w K mg base CX0 1 fI fdI ["self","rows"] (Qmb C))(b_init:Binds K fdI ["self","rows"] [])(G_put:FnOk P w K mg base CX0 1 fP fdP ["self","line"] (Qmc C))(b_put:Binds K fdP ["self","line"] [])(m_put:Meth K C "put" fP)(G_line_of:FnOk P w K mg base CX0 2 fL fdL ["self","number"] (Qmd K C))(b_line_of:Binds K fdL ["self","number"] [])(m_line_of:Meth K C "line_of" fL)(F:Fn K mg "bound_lines" sBdL)(M:Mg mg)(c_rows_below:Cal P w K mg base 2 "rows_below" ["problem","best"] (Qma K))(c_sum_row:Cal P w K mg base 1 "sum_row" ["count","parts"] (spSum K))(c_most_of:Cal P w K mg base 1 "most_of" ["row","holds"] (Qqd K)):Cal P w K mg base 3 "bound_lines" ["problem","best","multipliers","holds"] (spBdL K):=by
 refine Xt F scBdL (fun _ _ _ _ _ _=>Qch (fun _ _ _ _=>rfl)) (fun vs H Q E h=>?_) (fun f cdv A outer s H vs Q E hr h=>?_)
 .obtain⟨t,l,mu,w,h,rs,cs,o,q0,qs,hs,rfl,_⟩:=h
  rfl
 obtain⟨t,l,mu,w,h,rs,cs,o,q0,qs,hs,rfl,hP,h7,m7,hmu,hw,hh,hG,lh,lq,hb,hr1,qN,qS⟩:=h
 refine⟨_,(Qb (Qp (i:=4) scBdL.nd rfl (Or.inr rfl) (Xh c_rows_below (hr.mono Dc) (Qa (pv 0) (Qa (pv 1) Qe))))
  (Qb (Qp (i:=5) scBdL.nd rfl (Or.inr rfl) (Qn Qav (Qz Xv rfl M.list_ Yv (Qa (Qo Qu (pv 2) Qf (fun _ _=>rfl)) Qe)) (Xz (Qa (Qo Qu (pv 2) Qf (fun _ _=>rfl)) Qe))))
  (Qb (Zx (i:=6) ["number","times"] [none,some 5] rfl scBdL.nd rfl (Or.inl rfl) (Yo rfl M.range_ (Qa (Ql Qm rfl M.len Xl (Qa (pv 4) Qe)) Qe)) (fun _ _ _=>(Qx (i:=0) (show(["number","times"]:List Str).Nodup by decide +kernel) rfl (Or.inl rfl) (Or.inr rfl))) (fun _ _ _=>(Qdj (Qr Wk (Qo (Zr (K:=K) rfl) (pv 1) (pv 0) (fun _ _=>rfl)) Qf (Qt _)))) (fun _ _ _=>(pv 0)))
  (Qb (Qp (i:=7) scBdL.nd rfl (Or.inl rfl) (Xh c_sum_row (hr.mono Dc) (Qa (Ql Qm rfl M.len Xl (Qa (Qo Qu (pv 0) Qf (fun _ _=>rfl)) Qe)) (Qa (Zm ["number","rows","times"] [none,some 4,some 5] rfl (Xn (pv 6)) (fun _ _ _=>(Qx (i:=0) (show(["number","rows","times"]:List Str).Nodup by decide +kernel) rfl (Or.inl rfl) (Or.inr rfl))) (fun _ _ _=>Xy) (fun _ _ _=>(Xk (Qa (Qo (Zr (K:=K) rfl) (pv 1) (pv 0) (fun _ _=>rfl)) (Qa (Qo (Zr (K:=K) rfl) (pv 2) (pv 0) (fun _ _=>rfl)) Qe))))) Qe))))
  (Qb (Xi (Qr Qhb (Xh c_most_of (hr.mono Dc) (Qa (pv 7) (Qa (pv 3) Qe))) (Qo Qu (pv 7) Qf (fun _ _=>rfl)) (Qt _)) (Qi (Qs Ye)) Qv)
  (Qb (Qp (i:=8) scBdL.nd rfl (Or.inr rfl) (Qji mI G_init (hr.mono Dc) rfl T.mgC b_init .nil Yq (Qa (Ql Qm rfl M.len Xl (Qa (Qo Qu (pv 0) Qf (fun _ _=>rfl)) Qe)) Qe)))
  (Qb (Zx (i:=9) ["number","times","sheet"] [none,some 5,some 8] rfl scBdL.nd rfl (Or.inl rfl) (Xn (pv 6)) (fun _ _ _=>(Qx (i:=0) (show(["number","times","sheet"]:List Str).Nodup by decide +kernel) rfl (Or.inl rfl) (Or.inr rfl))) (fun _ _ _=>Xy) (fun _ _ _=>(Xk (Qa (Xf (pv 2) T.cl m_line_of G_line_of (hr.mono Dc) b_line_of .nil Yq (Qa (pv 0) Qe)) (Qa (Qo (Zr (K:=K) rfl) (pv 1) (pv 0) (fun _ _=>rfl)) Qe)))))
  (Qb (Qp (i:=10) scBdL.nd rfl (Or.inl rfl) (Xf (pv 8) T.cl m_put G_put (hr.mono Dc) b_put .nil Yq (Qa (Xk (Qa Jf (Qa (pv 9) Qe))) Qe)))
  (Qb (Ys (Xf (pv 8) T.cl m_put G_put (hr.mono Dc) b_put .nil Yq (Qa (Xk (Qa Jf (Qa (pv 10) (Qa (Qz Xv rfl M.list_ Yv (Qa (pv 3) Qe)) Qe)))) Qe)))
  (Qi (Qs (Qq (pv 8) rfl)))))))))))),?_⟩
 have hz:(1000:Nat)<sizeLine:=Dc
 have hR1:∀r∈Yb rs cs o,r.1.length=cs.length:=fun r hr=>by
  cases o with
  |none=>exact hr1 r hr
  |some b=>
   rcases zY.mp hr with z | z
   .exact hr1 r z
   .rw[yW.mp z];show(cs.map fun c=>-c).length=_;rw[jQ]
 have hRl:(Yb rs cs o).length<=rs.length+1:=by
  cases o with
  |none=>exact Nat.le_succ _
  |some b=>show(rs++[Za cs b]).length<=_;rw[kZ];exact jY _
 have up:∀{Hy Hz:Hp} {g:Addr},Hz g=none->Same Hy Hz->Hy g=none:=fun{Hy Hz g} h s=>by
  cases e5:Hy g with
  |none=>rfl
  |some o=>rw[s _ _ e5]at h;cases h
 generalize hRR:Yb rs cs o=R at hR1 hRl qN qS
 refine⟨_,rfl,_,rfl,t,l,rs,cs,o,rfl,hP,Om,Om,fun a us H1 s1 fa ha hrw=>?_⟩
 rw[hRR]at hrw
 have lu:=hrw.length
 refine⟨_,rfl,mu,_,_,_,rfl,rfl,s1.tup hmu,at1,w,_,rfl,.inr (s1.tup hw),fun l1 hl1=>?_⟩
 have s2:=Qd hl1 (.lst (qs.map V.int))
 refine⟨_,rfl,mu,_,_,_,rfl,rfl,(s1.trans s2).tup hmu,at0,by show 1<=sizeLine;decide,fun l2 hl2=>?_⟩
 have s3:=Qd hl2 (.lst [V.int q0])
 refine⟨l1,l2,_,_,rfl,rfl,s3 _ _ Qc,Qc,by rw[jQ];show qs.length+1<=sizeLine;lia,fun ti hti=>?_⟩
 have s4:=Qd hti (.lst (qs.map V.int++[V.int q0]))
 have ht4:SqL K (upd (upd (upd H1 l1 (.lst (qs.map V.int))) l2 (.lst [V.int q0])) ti (.lst (qs.map V.int++[V.int q0]))) ti ((qs++[q0]).map V.int):=by rw[yK];exact Qh Qc
 have sA:=(s2.trans s3).trans s4
 generalize upd (upd (upd H1 l1 (.lst (qs.map V.int))) l2 (.lst [V.int q0])) ti (.lst (qs.map V.int++[V.int q0]))=H2 at ht4 sA⊢
 have lts:(qs++[q0]).length=rs.length+1:=by rw[kZ,lq];rfl
 generalize hts:qs++[q0]=ts at ht4 lts qN qS hb
 have sB:=s1.trans sA
 refine⟨_,rfl,a,_,rfl,.inl (Qh (sA _ _ ha)),_,rfl,Om,Om,fun D hD=>?_⟩
 rw[lu,zK]
 refine Qrz (xs:=List.range R.length) (val:=fun k=>V.int ((k:Nat):Int)) (fun k:Nat=>V.int ((k:Nat):Int)) id (fun k=>decide (0<ts.getD k 0)) rfl Vc (by rw[jV];lia) hD (fun k hk H3 s5 Pp h=>?_) (fun k hk _ H3 s5 Pp h=>⟨_,rfl,h H3 (Same.refl _)⟩) fun H3 s5 h3=>?_
 .have hk':=xX.mp hk
  exact⟨_,rfl,_,rfl,ti,_,_,_,rfl,rfl,s5.seq ht4,Qak Om,_,_,rfl,rfl,_,rfl,h H3 (Same.refl _)⟩
 rw[kJf]at h3
 have eas:(List.range R.length).filter (fun k=>decide (0<ts.getD k 0))=Jb R.length ts:=rfl
 rw[eas]at h3
 have has:∀k∈Jb R.length ts,k<R.length/\0<ts.getD k 0/\ts.getD k 0<2 ^ 64:=fun k hk=>by
  obtain⟨k1,k2⟩:=jYa.mp hk
  have k3:=xX.mp k1
  refine⟨k3,kK k2,(hb _ ?_).2⟩
  rw[jZ,gE (show k<ts.length by lia)]
  exact jQf _
 have nda:(Jb R.length ts).Nodup:=List.Pairwise.sublist List.filter_sublist List.nodup_range
 have lal:(Jb R.length ts).length<=R.length:=jQb (jXe ..) (by rw[jV];exact jY _)
 generalize Jb R.length ts=as at h3 has nda lal qN qS
 have sC:=sB.trans s5
 obtain⟨c,vs0,hp1,hp2,hp3,hp4⟩:=id hP
 have lc:(cs.map V.int).length=cs.length:=jQ ..
 refine⟨_,rfl,t,_,_,_,rfl,rfl,sC.tup hp1,at1,c,_,rfl,.inr (sC.tup hp4),_,rfl,D,rfl,⟨_,Qh h3⟩,fun D2 hD2=>?_⟩
 refine Vf (α:=Nat) (β:=Nat) (xs:=as) (val:=fun k=>V.int ((k:Nat):Int)) (fun H v k=>∃T' t',T'≠D2/\v=V.ref T'/\SqT K H T' [.ref t',.int (ts.getD k 0)]/\RowAt K H3 t' (rowK R k)) id rfl (Zn (Qh h3)) Om hD2 (fun _ s ⟨T',t',n',e,h,hr'⟩=>⟨T',t',n',e,s.tup h,hr'⟩) (fun⟨T',t',n',e,h,hr'⟩=>⟨T',t',n',e,Qgl n' h,hr'⟩) (fun k hk H4 s6 hD4 Pp h=>?_) fun H4 ys s6 h4 hp=>?_
 .have hk':=has k hk
  obtain⟨t',et,hrow⟩:∃t',us[k]?=some (.ref t')/\RowAt K H1 t' (rowK R k):=by
   have hkl:k<us.length:=Om
   obtain⟨r',er',t',e,h⟩:=L2.Paired.getR hrw (gE hkl)
   have e2:rowK R k=r':=by unfold rowK;rw[jZ,er'];rfl
   exact⟨t',by rw[gE hkl,e],by rw[e2];exact h⟩
  have sD:=s5.trans s6
  refine⟨_,rfl,_,rfl,a,_,_,_,rfl,rfl,Qh (sD _ _ (sA _ _ ha)),Zw et,_,rfl,_,rfl,ti,_,_,_,rfl,rfl,sD.seq ht4,Qak Om,by show 2<=sizeLine;decide,fun T' hT'=>?_⟩
  exact h _ _ (Qd hT' _) ⟨T',t',fun z=>hD4 (by rw[<-z];exact hT'),rfl,Qy Qc,hrow.same (sA.trans s5)⟩
 rw[kJf]at hp
 have ly:=Paired.length hp
 have sE:=sC.trans s6
 refine⟨D2,ys,as.map (fun k=>(rowK R k,ts.getD k 0)),cs.length,by rw[lc];rfl,Qh h4,⟨by rw[jQ];exact ly,fun i v p e1 e2=>?_⟩,Om,fun p hp'=>?_,fun tt H5 s7 htt=>?_⟩
 .obtain⟨k,ek,T',t',_,e,h,hr'⟩:=L2.Paired.getR hp e1
  rw[jJ,ek]at e2
  cases e2
  exact⟨T',t',e,h,hr'.same s6⟩
 .obtain⟨k,hk,e⟩:=kY.mp hp'
  have hk':=has k hk
  rw[<-e]
  refine⟨?_,by show -(2 ^ 64)<ts.getD k 0;lia,hk'.2.2⟩
  show(R.getD k ([],0)).1.length=_
  rw[jZ,gE hk'.1]
  exact hR1 _ (jQf _)
 have etot:Yg cs.length (as.map fun k=>(rowK R k,ts.getD k 0))=Xo cs.length R as ts:=rfl
 rw[etot]at htt
 have lt:(Xo cs.length R as ts).1.length=cs.length:=Jm _ _ fun p hp'=>by
  obtain⟨k,hk,e⟩:=kY.mp hp'
  rw[<-e]
  show(R.getD k ([],0)).1.length=_
  rw[jZ,gE (has k hk).1]
  exact hR1 _ (jQf _)
 have sF:=sE.trans s7
 obtain⟨ct,ht1,ht2⟩:=id htt
 refine⟨_,rfl,_,rfl,tt,h,Xo cs.length R as ts,hs,rfl,htt,hh.same sF,Om,fun p hp'=>(hG.ok p hp').2.2,fun H6 s8=>?_⟩
 have mr:=Qlz hG lt
 have sG:=sF.trans s8
 refine⟨_,rfl,tt,_,_,_,rfl,rfl,s8.tup ht1,at1,_,_,rfl,rfl,_,rfl,ite2 (fun cc=>?_) (fun cc=>?_)⟩
 .have:=kK cc
  exact qN Om _ sG
 have hneg:roomF cs.length (hv hs) (Xo cs.length R as ts)<0:=by
  have:¬(Xo cs.length R as ts).2<=Vu (dOf hs) (Xo cs.length R as ts).1 (Xo cs.length R as ts).1.length:=fun z=>cc (kW z)
  lia
 obtain⟨c6,vs6,hp61,hp62,hp63,hp64⟩:=hP.same sG
 have l6:=hp63.length
 refine⟨_,rfl,t,_,_,_,rfl,rfl,hp61,at0,l,_,rfl,.inl (Qh hp62),fun p dx fp fdx nd=>?_⟩
 dsimp only[tNil]
 have s9:Same H6 (upd (upd H6 dx (.own p)) p (.ins C dx [])):=(Qd fdx _).trans (Qd (by rw[Qj nd.symm];exact fp) _)
 refine⟨p,dx,((vs6.length:Nat):Int),rfl,Qc,fun L Dd H7 fL fDd S7 kp=>⟨rfl,?_⟩⟩
 have fL6:=up fL s9
 have fD6:=up fDd s9
 have s10:Same H6 H7:=fun b o e=>kp b o (s9 _ _ e) (Qk e fp)
 have s36:=(s6.trans s7).trans s8
 have h36:=s36 _ _ h3
 have ht6:=(s5.trans s36).seq ht4
 rw[l6]at S7
 have lpk:(Jc as ts).length=as.length:=by unfold Jc;rw[jQ,jV]
 refine⟨_,rfl,D,rfl,⟨_,Qh (s10 _ _ h36)⟩,fun D3 hD3=>?_⟩
 have nDL:D3≠L:=fun z=>by rw[z,S7.ln]at hD3;cases hD3
 have nDD:D3≠Dd:=fun z=>by rw[z,S7.pl]at hD3;cases hD3
 have nDp:D3≠p:=fun z=>by obtain⟨_,h⟩:=S7.ob;rw[z,h]at hD3;cases hD3
 have fD36:H6 D3=none:=up hD3 s10
 let Pv26:Nat->St->List V->Hp->Prop:=fun i τ ys H8=>∃(v:Option V) (ls:List V) (kvs:List (Key×V)),τ=[v,some (.ref ti),some (.ref p)]/\ShAt C H8 p L Dd ((rs.length:Nat):Int) ls kvs/\Paired (fun v k=>∃t,v=V.ref t/\SqT K H8 t (Jz ((rs.length:Nat):Int) ((k:Nat):Int))) ls (as.take i)/\(∀k:Nat,k∉as.take i->valV kvs (Sum.inl ((k:Nat):Int))=none)/\kvs.length<=i/\PairsAre K H8 ys (((Jc as ts).take i).map fun p=>(p.1,V.int p.2))/\H8 D3=some (.lst ys)/\Same H6 H8
 refine Kk (n:=as.length) Pv26 ?_ (fun i τ ys H8 hi h=>?_) (fun i τ ys H8 hi h=>?_) (fun τ ys H8 h=>?_) ?_ ?_
 .exact⟨none,[],[],rfl,S7.same (Qd hD3 _),.nil,fun _ _=>rfl,jY _,.nil,Qc,s10.trans (Qd hD3 _)⟩
 .obtain⟨v,ls,kvs,rfl,S8,hls,hkv,lk,hys,hD8,s11⟩:=h
  have:=hys.length
  rw[jQ,xJ]at this
  exact⟨hD8,Om⟩
 .obtain⟨v,ls,kvs,rfl,S8,hls,hkv,lk,hys,hD8,s11⟩:=h
  exact⟨_,.int ((as[i]:Nat):Int),Qh (s11 _ _ h36),by rw[jJ,gE hi];rfl⟩
 .obtain⟨v,ls,kvs,rfl,S8,hls,hkv,lk,hys,hD8,s11⟩:=h
  exact⟨_,Qh (s11 _ _ h36),by rw[jQ];exact jY _⟩
 .rintro i τ ys H8 x H9 hi ⟨v,ls,kvs,rfl,S8,hls,hkv,lk,hys,hD8,s11⟩ ⟨rfl,e1⟩
  have e2:=e1 _ (Qh (s11 _ _ h36))
  rw[jJ,gE hi]at e2
  have e3:x=V.int ((as[i]:Nat):Int):=(Option.some.inj e2).symm
  subst e3
  have ls9:=Paired.length hls
  rw[xJ]at ls9
  have ls8:ls.length=i:=Om
  have hk':=has as[i] (jQf _)
  have hnot:as[i]∉as.take i:=fun hm=>by
   obtain⟨j,hj,ej⟩:=kZd hm
   rw[xJ]at hj
   rw[List.getElem_take]at ej
   have:=(List.getElem_inj (h₀:=show j<as.length by lia) (h₁:=hi) nda).mp ej
   lia
  have hnone:=hkv _ hnot
  obtain⟨dx',hob⟩:=S8.ob
  refine⟨_,rfl,p,dx',_,rfl,hob,Qee _ _ _ Dk Dk Dk,_,rfl,p,L,Dd,_,_,ls,kvs,rfl,S8,Om,Om,(fun v e=>by rw[hnone]at e;cases e),fun _ t' H' ft hT S' kp'=>?_⟩
  have tk:∀tz zs,SqT K H9 tz zs->SqT K H' tz zs:=fun tz zs h=>Qoz S8.ln S8.pl kp' h
  have sH:Same H6 H':=fun b o e=>kp' b o (s11 _ _ e) (Qk e fL6) (Qk e fD6)
  refine⟨_,rfl,_,rfl,ti,_,_,_,rfl,rfl,sH.seq ht6,Qak Om,by show 2<=sizeLine;decide,fun Tq hTq=>?_⟩
  have s12:=Qd hTq (.tup [.int ((ls.length:Nat):Int),.int (ts.getD as[i] 0)])
  have hD':=kp' _ _ hD8 nDL nDD
  have S12:=S'.same s12
  have e4:as.take (i+1)=as.take i++[as[i]]:=by rw[kJb,gE hi];rfl
  have e5:(Jc as ts).take (i+1)=(Jc as ts).take i++[(((i:Nat):Int),ts.getD as[i] 0)]:=by
   rw[kJb]
   congr 1
   unfold Jc
   rw[jJ,jXa hi]
   show[(((i:Nat):Int),ts.getD (as.getD i 0) 0)]=_
   rw[show as.getD i 0=as[i]by rw[jZ,gE hi];rfl]
  have tk2:∀tz zs,SqT K H9 tz zs->SqT K (upd (upd H' Tq (.tup [.int ((ls.length:Nat):Int),.int (ts.getD as[i] 0)])) D3 (.lst (ys++[.ref Tq]))) tz zs:=fun tz zs h=>Yx (s12 _ _ hD') (s12.tup (tk _ _ h))
  refine⟨s12 _ _ hD',_,ls++[.ref t'],putK kvs (Sum.inl ((as[i]:Nat):Int)) (.int ((ls.length:Nat):Int)),rfl,⟨?_,?_,?_⟩,?_,fun k hk=>?_,?_,?_,Qc,fun b o e=>?_⟩
  .obtain⟨d2,h2⟩:=S12.ob
   exact⟨d2,by rw[Qj nDp.symm];exact h2⟩
  .rw[Qj nDL.symm];exact S12.ln
  .rw[Qj nDD.symm];exact S12.pl
  .rw[e4]
   exact Kq (Paired.mapP hls fun _ _ ⟨t,e,z⟩=>⟨t,e,tk2 _ _ z⟩) ⟨t',rfl,Yx (s12 _ _ hD') (s12.tup hT)⟩
  .rw[e4]at hk
   have hk1:k∉as.take i:=fun z=>hk (kZa _ z)
   have hk2:k≠as[i]:=fun z=>hk (wK _ (yW.mpr z))
   rw[Kc,if_neg fun z=>hk2 (by injection z with z;lia)]
   exact hkv k hk1
  .have:=Zz kvs (Sum.inl ((as[i]:Nat):Int)) (.int ((ls.length:Nat):Int))
   lia
  .rw[e5,yK]
   refine Kq (PairsAre.imp' hys fun t xs z=>tk2 _ _ z) ⟨Tq,rfl,Yx (s12 _ _ hD') ?_⟩
   have:SqT K (upd H' Tq (.tup [.int ((ls.length:Nat):Int),.int (ts.getD as[i] 0)])) Tq [.int ((ls.length:Nat):Int),.int (ts.getD as[i] 0)]:=Qy Qc
   rw[ls8]at this⊢
   exact this
  .rw[Qj (Qk e fD36)];exact s12 _ _ (sH _ _ e)
 .rintro τ ys H8 ⟨v,ls,kvs,rfl,S8,hls,hkv,lk,hys,hD8,s11⟩
  rw[wY]at hls
  rw[<-lpk,wY]at hys
  have ls8:=Paired.length hls
  obtain⟨dx',hob⟩:=S8.ob
  refine⟨_,rfl,p,dx',_,rfl,hob,Qee _ _ _ Dk Dk Dk,_,rfl,by show 2<=sizeLine;decide,fun sA' fsA=>?_⟩
  have s12:=Qd fsA (.tup [.str "sum",.ref D3])
  refine⟨p,L,Dd,_,ls,kvs,.ref sA',rfl,S8.same s12,Om,?_⟩
  have S12:=S8.same s12
  have npL:p≠L:=Yl hob S8.ln (by intro z;cases z)
  have h12L:=S12.ln
  have hsT:SqT K (upd (upd H8 sA' (.tup [.str "sum",.ref D3])) L (.lst (ls++[.ref sA']))) sA' [.str "sum",.ref D3]:=Yx h12L (Qy Qc)
  have tk:∀tz zs,SqT K H8 tz zs->SqT K (upd (upd H8 sA' (.tup [.str "sum",.ref D3])) L (.lst (ls++[.ref sA']))) tz zs:=fun tz zs h=>Yx h12L (s12.tup h)
  have hob2:upd (upd H8 sA' (.tup [.str "sum",.ref D3])) L (.lst (ls++[.ref sA'])) p=some (.ins C dx' (shF ((rs.length:Nat):Int) L Dd)):=by rw[Qj npL];exact s12 _ _ hob
  have hL2:upd (upd H8 sA' (.tup [.str "sum",.ref D3])) L (.lst (ls++[.ref sA'])) L=some (.lst (ls++[.ref sA'])):=Qc
  have hP2:upd (upd H8 sA' (.tup [.str "sum",.ref D3])) L (.lst (ls++[.ref sA'])) Dd=some (.dK kvs):=by rw[Qj (Yl S12.pl h12L (by intro z;cases z))];exact S12.pl
  have hD2':upd (upd H8 sA' (.tup [.str "sum",.ref D3])) L (.lst (ls++[.ref sA'])) D3=some (.lst ys):=by rw[Qj nDL];exact s12 _ _ hD8
  have sJ:Same H6 (upd (upd H8 sA' (.tup [.str "sum",.ref D3])) L (.lst (ls++[.ref sA']))):=fun b o e=>by rw[Qj (Qk e fL6)];exact s12 _ _ (s11 _ _ e)
  generalize upd (upd H8 sA' (.tup [.str "sum",.ref D3])) L (.lst (ls++[.ref sA']))=HA at hsT tk hob2 hL2 hP2 hD2' sJ⊢
  obtain⟨hws,hhl,hhp⟩:=hh.same sG
  refine⟨_,rfl,p,dx',_,rfl,hob2,Qee _ _ _ Dk Dk Dk,_,rfl,_,rfl,h,_,rfl,.inl (sJ.seq hhl),fun G fG=>?_⟩
  have s13:=Qd fG (.lst hws)
  refine⟨by show 3<=sizeLine;decide,fun hA' fhA=>?_⟩
  have s14:=Qd fhA (.tup [.str "shut",.int ((ls.length:Nat):Int),.ref G])
  have s134:=s13.trans s14
  have hGG:=s14 _ _ (show upd HA G (.lst hws) G=some (.lst hws)from Qc)
  have hhT:SqT K (upd (upd HA G (.lst hws)) hA' (.tup [.str "shut",.int ((ls.length:Nat):Int),.ref G])) hA' [.str "shut",.int ((ls.length:Nat):Int),.ref G]:=Qy Qc
  generalize upd (upd HA G (.lst hws)) hA' (.tup [.str "shut",.int ((ls.length:Nat):Int),.ref G])=HB at s134 hGG hhT⊢
  refine⟨p,L,Dd,_,ls++[.ref sA'],kvs,.ref hA',rfl,⟨⟨dx',s134 _ _ hob2⟩,s134 _ _ hL2,s134 _ _ hP2⟩,by rw[kZ];show ls.length+1<=1000;lia,?_⟩
  have hLB:=s134 _ _ hL2
  have nGL:L≠G:=Qk hL2 fG
  have nGD:D3≠G:=Qk hD2' fG
  refine⟨_,rfl,p,C,dx',_,_,rfl,(by rw[Qj npL];exact s134 _ _ hob2),T.cl,T.nL,Qaj _ _ _,?_⟩
  have tk3:∀tz zs,SqT K HB tz zs->SqT K (upd HB L (.lst ((ls++[.ref sA'])++[.ref hA']))) tz zs:=fun tz zs z=>Yx hLB z
  refine qS hneg L _ (fun b o e=>?_) ⟨ls,ys,hws,sA',D3,hA',G,?_,?_,?_,?_,?_,?_,?_,?_,?_,?_,?_,nDL.symm,nGL,nGD⟩
  .rw[Qj (Qk (sG _ _ e) fL6)];exact s134 _ _ (sJ _ _ (sG _ _ e))
  .rw[Qc,List.append_assoc];rfl
  .exact Paired.mapP hls fun _ _ ⟨t,e,z⟩=>⟨t,e,tk3 _ _ (s134.tup (tk _ _ z))⟩
  .exact tk3 _ _ (s134.tup hsT)
  .rw[Qj nDL];exact s134 _ _ hD2'
  .exact PairsAre.imp' hys fun t xs z=>tk3 _ _ (s134.tup (tk _ _ z))
  .rw[<-ls8];exact tk3 _ _ hhT
  .rw[Qj nGL.symm];exact hGG
  .exact PairsAre.imp' hhp fun t xs z=>tk3 _ _ ((sJ.trans s134).tup z)
  .exact up fL6 sG
  .exact up fD36 sG
  .exact up (up fG sJ) sG
inductive Qmk(K:Fg)(vs:List V)(H:Hp)(Q:VK)(E:XK):Prop|mk(t:Addr)(rs:List (List Int×Int))(cs:List Int)(_:vs=[.ref t])(_:ProbAt K H t rs cs)(_:rs.length<=1000)(_:∀t' l' H',Same H H'->H l'=none->ProbL K H' t' l' rs cs->Q (.ref t') H'):Qmk K vs H Q E
theorem Qsv(F:Fn K mg "_law_copy" Qol)(M:Mg mg):Cal P w K mg base 1 "_law_copy" ["_law_problem_here"] (Qmk K):=by
 refine Xt F scCopy (fun _ _ _ _ _ _=>bind1 (fun _=>rfl)) (fun vs H Q E h=>?_) (fun f cdv A outer s H vs Q E hr h=>?_)
 .obtain⟨t,rs,cs,rfl,_⟩:=h
  rfl
 obtain⟨t,rs,cs,rfl,⟨l,c,vs,ht,hl,hrw,hc⟩,hn,q⟩:=h
 refine⟨_,(Qi (Qs (Xk (Qa (Zm ["_law_row_here"] [none] rfl (Xn (Qo Qu (pv 0) Qf (fun _ _=>rfl))) (fun _ _ _=>(Qx (i:=0) (show(["_law_row_here"]:List Str).Nodup by decide +kernel) rfl (Or.inl rfl) (Or.inr rfl))) (fun _ _ _=>Xy) (fun _ _ _=>(Xk (Qa (Qz (Qan (K:=K) rfl) rfl M.tuple_ Yh (Qa (Qz (Qbu (K:=K) rfl) rfl M.list_ Yv (Qa (Qo (Jy (K:=K) rfl) (pv 0) Qf (fun _ _=>rfl)) Qe)) Qe)) (Qa (Qo (Jy (K:=K) rfl) (pv 0) Qf (fun _ _=>rfl)) Qe))))) (Qa (Qz Xe rfl M.tuple_ Yh (Qa (Qz Xv rfl M.list_ Yv (Qa (Qo Qu (pv 0) Qf (fun _ _=>rfl)) Qe)) Qe)) Qe))))),?_⟩
 have hz:(1000:Nat)<sizeLine:=Dc
 have lv:=hrw.length
 refine⟨_,rfl,t,_,_,_,rfl,rfl,ht,at0,l,rfl,⟨_,hl⟩,fun D hD=>?_⟩
 let Pv27:Nat->St->List V->Hp->Prop:=fun i τ ys H1=>∃v:Option V,τ=[v]/\RowsAre K H1 ys (rs.take i)/\H1 D=some (.lst ys)/\Same H H1
 refine Kk (n:=rs.length) Pv27 ?_ (fun i τ ys H1 hi h=>?_) (fun i τ ys H1 hi h=>?_) (fun τ ys H1 h=>?_) ?_ ?_
 .exact⟨none,rfl,.nil,Qc,Qd hD _⟩
 .obtain⟨v,rfl,hr1,hD1,s1⟩:=h
  exact⟨hD1,by rw[hr1.length,xJ];lia⟩
 .obtain⟨v,rfl,hr1,hD1,s1⟩:=h
  exact⟨vs,vs[i]'Om,s1.seq hl,gE Om⟩
 .obtain⟨v,rfl,hr1,hD1,s1⟩:=h
  exact⟨vs,s1.seq hl,Om⟩
 .rintro i τ ys H1 x H2 hi ⟨v,rfl,hr1,hD1,s1⟩ ⟨rfl,e1⟩
  obtain⟨t',r,rfl,er,p,rt1,rt2⟩:=hrw.get (e1 _ (s1.seq hl))
  refine⟨_,rfl,t',_,_,_,rfl,rfl,s1.tup rt1,at0,p,_,rfl,.inr (s1.tup rt2),fun l2 hl2=>?_⟩
  refine⟨l2,_,rfl,.inl ⟨Qh Qc,fun l3 hl3=>?_⟩⟩
  have s2:Same H2 (upd (upd H2 l2 (.lst (r.1.map V.int))) l3 (.tup (r.1.map V.int))):=(Qd hl2 _).trans (Qd hl3 _)
  refine⟨_,rfl,t',_,_,_,rfl,rfl,(s1.trans s2).tup rt1,at1,by show 2<=sizeLine;decide,fun t2 ht2=>?_⟩
  have s3:=s2.trans (Qd ht2 (.tup [.ref l3,.int r.2]))
  have n3:l3≠t2:=Qk Qc ht2
  refine⟨s3 _ _ hD1,_,rfl,?_,Qc,fun b o e=>?_⟩
  .rw[Qcd er]
   exact RowsAre.snoc (hr1.imp fun _ _ z=>(z.same s3).upd (s3 _ _ hD1)) (RowAt.upd (s3 _ _ hD1) ⟨l3,Qy Qc,Qy (by rw[Qj n3];exact Qc)⟩)
  .rw[Qj (Qk e hD)];exact s3 _ _ (s1 _ _ e)
 .rintro τ ys H1 ⟨v,rfl,hr1,hD1,s1⟩
  rw[wY]at hr1
  refine⟨_,rfl,t,_,_,_,rfl,rfl,s1.tup ht,at1,c,_,rfl,.inr (s1.tup hc),fun l2 hl2=>?_⟩
  refine⟨l2,_,rfl,.inl ⟨Qh Qc,fun l3 hl3=>?_⟩⟩
  have s2:Same H1 (upd (upd H1 l2 (.lst (cs.map V.int))) l3 (.tup (cs.map V.int))):=(Qd hl2 _).trans (Qd hl3 _)
  refine⟨by show 2<=sizeLine;decide,fun t2 ht2=>?_⟩
  have s3:=s2.trans (Qd ht2 (.tup [.ref D,.ref l3]))
  have n3:l3≠t2:=Qk Qc ht2
  exact q t2 D _ (s1.trans s3) hD ⟨l3,ys,Qy Qc,s3 _ _ hD1,hr1.imp fun _ _ z=>z.same s3,Qy (by rw[Qj n3];exact Qc)⟩
theorem ProbL.at{K:Fg}{H:Hp}{t l:Addr}{rs:List (List Int×Int)}{cs:List Int}(h:ProbL K H t l rs cs):ProbAt K H t rs cs:=by obtain⟨c,vs,h1,h2,h3,h4⟩:=h;exact⟨l,c,vs,h1,Qh h2,h3,h4⟩
theorem Qef{m:Nat}{ts:List Int}(h:∀k,0<=ts.getD k 0)(g:Nat->Int):((Jb m ts).map fun k=>ts.getD k 0*g k).sum=((List.range m).map fun k=>ts.getD k 0*g k).sum:=by
 unfold Jb
 rw[sum_filter]
 refine Vm fun j _=>?_
 by_cases c:0<ts.getD j 0
 .rw[if_pos (kW c)]
 .rw[if_neg (fun z=>c (kK z))]
  have:ts.getD j 0=0:=by have:=h j;lia
  rw[this,wQ]
theorem Qml{n:Nat}{R:List (List Int×Int)}{ts:List Int}(h:∀k,0<=ts.getD k 0)(hR:∀r∈R,r.1.length=n):Yg n ((List.range R.length).map fun k=>(rowK R k,ts.getD k 0))=Xo n R (Jb R.length ts) ts:=by
 have hk:∀k,k<R.length->(rowK R k).1.length=n:=fun k hk=>by
  unfold rowK
  rw[jZ,gE hk]
  exact hR _ (jQf _)
 have h1:∀p∈(List.range R.length).map (fun k=>(rowK R k,ts.getD k 0)),p.1.1.length=n:=fun p hp=>by
  obtain⟨k,hk',e⟩:=kY.mp hp
  rw[<-e];exact hk k (xX.mp hk')
 have h2:∀p∈(Jb R.length ts).map (fun k=>(rowK R k,ts.getD k 0)),p.1.1.length=n:=fun p hp=>by
  obtain⟨k,hk',e⟩:=kY.mp hp
  rw[<-e];exact hk k (xX.mp (jYa.mp hk').1)
 unfold Xo
 refine Prod.ext ?_ ?_
 .rw[Qeb _ _ h1,Qeb _ _ h2]
  refine xZ fun i _=>?_
  unfold colP
  rw[xW,xW]
  exact(Qef h fun k=>(rowK R k).1.getD i 0).symm
 .rw[Vt,Vt]
  unfold Qea
  rw[xW,xW]
  exact(Qef h fun k=>(rowK R k).2).symm
theorem Qql{K:Fg}{H:Hp}{a:Addr}{v w:V}{d e:D}(h:SqL K H a [v,w])(h1:HasD K H v d)(h2:HasD K H w e):HasD K H (.ref a) (.lst [d,e]):=by
 refine .lst h rfl fun i v x e1 e2=>?_
 match i with
 |0=>simp at e1 e2;subst e1 e2;exact h1
 |1=>simp at e1 e2;subst e1 e2;exact h2
 |i+2=>simp at e1
theorem Kr{n:Nat}{a b c d:D}(h1:Alike n a c)(h2:Alike n b d):Alike (n+1) (.lst [a,b]) (.lst [c,d]):=by
 refine .lst fun i x y e1 e2=>?_
 match i with
 |0=>simp at e1 e2;subst e1 e2;exact h1
 |1=>simp at e1 e2;subst e1 e2;exact h2
 |i+2=>simp at e1
theorem BdAt.same{K:Fg}{H0 H H':Hp}{L:Addr}{m:Nat}{as:List Nat}{ts:List Int}{hs:List (Int×Int)}(h:BdAt K H0 H L m as ts hs)(s:Same H H'):BdAt K H0 H' L m as ts hs:=by
 obtain⟨ls,us,ws,sA,P,hA,G,a1,a2,a3,a4,a5,a6,a7,a8,a9⟩:=h
 exact⟨ls,us,ws,sA,P,hA,G,s _ _ a1,Paired.mapP a2 fun _ _ ⟨t,e,z⟩=>⟨t,e,s.tup z⟩,s.tup a3,s _ _ a4,PairsAre.same s a5,s.tup a6,s _ _ a7,PairsAre.same s a8,a9⟩
theorem nx_cut{t1 t2:TS}{D:Ends}{σ:St}{H:Hp}(Pv:St->Hp->Prop)(h2:∀σ' H',Pv σ' H'->t2 D σ' H')(h1:(∀σ' H',Pv σ' H'->t2 D σ' H')->t1 { D with nx:=t2 D } σ H):({ D with nx:=tSeq t1 t2 D }:Ends).nx σ H:=h1 h2
theorem Qeg{α β γ:Type}{R:α->β->Prop}{S:α->γ->Prop}{f:β->γ}(hs:∀a b,R a b->S a (f b)):∀{us:List α} {xs:List β},Paired R us xs->Paired S us (xs.map f)
 |_,_,.nil=>.nil
 |_,_,.cons h r=>.cons (hs _ _ h) (Qeg hs r)
abbrev sRgt:Stmt:=top 49
inductive spRgt(K:Fg)(vs:List V)(H:Hp)(Q:VK)(E:XK):Prop|mk(t ct w hl:Addr)(rs:List (List Int×Int))(cs:List Int)(o:Option Int)(q0:Int)(qs:List Int)(hs:List (Int×Int))(_:vs=[.ref t,Vp o,.ref ct,.ref hl])(_:ProbAt K H t rs cs)(_:cs.length<=7)(_:rs.length<=7)(_:SqT K H ct [.int q0,.ref w])(_:SqL K H w (qs.map V.int))(_:HoldsAt K H hl hs)(_:Good cs.length hs)(_:hs.length<=100)(_:qs.length=rs.length)(_:(∀q∈qs++[q0],0<=q/\q<2 ^ 64))(_:(∀r∈rs,r.1.length=cs.length))(_:∀H',Same H H'->Q (.bl true) H'):spRgt K vs H Q E
theorem scRgt:FnScope ["_law_problem_here","_law_best_here","_law_counts","_law_holds_here","_law_many","_law_rows","_law_parts","_law_row_here","_law_handed","_law_turn","_law_found"] ["_law_problem_here","_law_best_here","_law_counts","_law_holds_here"] (Qg sRgt):=⟨rfl,rfl,rfl,Dk,rfl,Dk,Dk⟩
theorem okRgt (F:Fn K mg "_law_right" sRgt)(M:Mg mg)(cl_summed:Cal P w K mg base 1 "_law_summed" ["_law_many","_law_rows","_law_parts"] (Qsu K))(cl_copy:Cal P w K mg base 1 "_law_copy" ["_law_problem_here"] (Qmk K))(c_bound_lines:Cal P w K mg base 3 "bound_lines" ["problem","best","multipliers","holds"] (spBdL K))(cl_most:Cal P w K mg base 1 "_law_most" ["_law_row_here","_law_holds_here"] (Qfl K))(cl_last:Cal P w K mg base 5 "_law_last" ["_law_problem_here","_law_best_here","_law_paper"] (Qqk K))(cl_shut:Cal P w K mg base 1 "_law_shut" ["_law_many","_law_holds_here"] (Qfk K))(cl_emptied:Cal P w K mg base 1 "_law_emptied" ["_law_paper"] (spEmp K)):Cal P w K mg base 6 "_law_right" ["_law_problem_here","_law_best_here","_law_counts","_law_holds_here"] (spRgt K):=by
 refine Xt F scRgt (fun _ _ _ _ _ _=>Qch (fun _ _ _ _=>rfl)) (fun vs H Q E h=>?_) (fun f cdv A outer s H vs Q E hr h=>?_)
 .obtain⟨t,ct,w,hl,rs,cs,o,q0,qs,hs,rfl,_⟩:=h
  rfl
 obtain⟨t,ct,w,hh,rs,cs,o,q0,qs,hs,rfl,hP,h7,m7,hct,hw,hhs,hG,lh,lq,hb,hr1,q⟩:=h
 have hu6:(A.deeper (PyProof.Rows.envOfC "_law_right" (Qg sRgt) s.heap.objs.size f cdv)).units+6<cLine:=zQ (zZ Dc _) hr.un
 refine⟨_,(Qb (Qp (i:=4) scRgt.nd rfl (Or.inl rfl) (Ql Qm rfl M.len Xl (Qa (Qo Qu (pv 0) Qf (fun _ _=>rfl)) Qe)))
  (Qb (Qp (i:=5) scRgt.nd rfl (Or.inl rfl) (Qz Xv rfl M.list_ Yv (Qa (Qo Qu (pv 0) Qf (fun _ _=>rfl)) Qe)))
  (Qb (Zx (i:=6) ["_law_k","_law_counts"] [none,some 2] rfl scRgt.nd rfl (Or.inl rfl) (Yo rfl M.range_ (Qa (Ql Qm rfl M.len Xl (Qa (pv 5) Qe)) Qe)) (fun _ _ _=>(Qx (i:=0) (show(["_law_k","_law_counts"]:List Str).Nodup by decide +kernel) rfl (Or.inl rfl) (Or.inr rfl))) (fun _ _ _=>Xy) (fun _ _ _=>(Xk (Qa (pv 0) (Qa (Qo (Zr (K:=K) rfl) (Qo (Jy (K:=K) rfl) (pv 1) Qf (fun _ _=>rfl)) (pv 0) (fun _ _=>rfl)) Qe)))))
  (Qb (Xi (Qr Wm (pv 1) Ye (Qt _)) (Qb (Ys (Vw PySem.F.plainAttrs_list PySem.F.slot_list_append PySem.F.type_list_append Yp (pv 5) (Qa (Xk (Qa (Qz Xe rfl M.tuple_ Yh (Qa (Zm ["_law_cost"] [none] rfl (Ki (Qo Qu (pv 0) Qf (fun _ _=>rfl))) (fun _ _ _=>(Qx (i:=0) (show(["_law_cost"]:List Str).Nodup by decide +kernel) rfl (Or.inl rfl) (Or.inr rfl))) (fun _ _ _=>Xy) (fun _ _ _=>(Qn Xs Qf (pv 0)))) Qe)) (Qa (Qn Xs Qf (pv 1)) Qe))) Qe)))
  (Qi (Ys (Vw PySem.F.plainAttrs_list PySem.F.slot_list_append PySem.F.type_list_append Yp (pv 6) (Qa (Xk (Qa (Qn Xs (Ql Qm rfl M.len Xl (Qa (pv 5) Qe)) Qf) (Qa (Qo Qu (pv 2) Qf (fun _ _=>rfl)) Qe))) Qe))))) Qv)
  (Qb (Qp (i:=7) scRgt.nd rfl (Or.inl rfl) (Xh cl_summed (hr.mono Dc) (Qa (pv 4) (Qa (pv 5) (Qa (pv 6) Qe)))))
  (Qb (Qp (i:=8) scRgt.nd rfl (Or.inl rfl) (Xz (Qa (Xh cl_copy (hr.mono Dc) (Qa (pv 0) Qe)) (Qa (Qz Xv rfl M.list_ Yv (Qa (pv 3) Qe)) Qe))))
  (Qb (Yf PassesOwn.never rfl (Yo rfl M.range_ (Qa Qf Qe)) (Qx (i:=9) scRgt.nd rfl (Or.inl rfl) (Or.inl rfl)) (Qb (Qp (i:=10) scRgt.nd rfl (Or.inl rfl) (Xh c_bound_lines (hr.mono Dc) (Qa (Qo Qw (pv 8) Qf (fun _ _=>rfl)) (Qa (pv 1) (Qa (Xk (Qa (Qo Qu (pv 2) Qf (fun _ _=>rfl)) (Qa (Qz Xe rfl M.tuple_ Yh (Qa (Qo Qu (pv 2) Qf (fun _ _=>rfl)) Qe)) Qe))) (Qa (Qo Qw (pv 8) Qf (fun _ _=>rfl)) Qe))))))
  (Qb (Xi (Qr (Qps (n:=6) hu6) (pv 8) (Xz (Qa (pv 0) (Qa (pv 3) Qe))) (Qt _)) (Qi (Qs Km)) Qv)
  (Qb (Xi (Qr Qhb (Xh cl_most (hr.mono Dc) (Qa (pv 7) (Qa (pv 3) Qe))) (Qo Qu (pv 7) Qf (fun _ _=>rfl)) (Qt _)) (Qi (Qs (Yj Wl (pv 10) Ye (Qt _)))) Qv)
  (Qb (Xi (Qr (Qps (n:=6) hu6) (Xh cl_last (hr.mono Dc) (Qa (pv 0) (Qa (pv 1) (Qa (pv 10) Qe)))) (Xh cl_shut (hr.mono Dc) (Qa (pv 4) (Qa (pv 3) Qe))) (Qt _)) (Qi (Qs Km)) Qv)
  (Qi (Ys (Xh cl_emptied (hr.mono Dc) (Qa (pv 10) Qe)))))))))
  (Qi (Qs (Yj (Qju (n:=6) hu6) (pv 8) (Xz (Qa (pv 0) (Qa (pv 3) Qe))) (Qt _))))))))))),?_⟩
 have hz:(1000:Nat)<sizeLine:=Dc
 obtain⟨l,c,vs,ht,hl,hrw,hc⟩:=id hP
 have lv:=hrw.length
 have lc:(cs.map V.int).length=cs.length:=jQ ..
 refine⟨_,rfl,t,_,_,_,rfl,rfl,ht,at1,c,_,rfl,.inr hc,?_⟩
 refine⟨_,rfl,t,_,_,_,rfl,rfl,ht,at0,l,_,rfl,.inl hl,fun Rr hRr=>?_⟩
 have s1:=Qd hRr (.lst vs)
 have hR1:upd H Rr (.lst vs) Rr=some (.lst vs):=Qc
 generalize upd H Rr (.lst vs)=H1 at s1 hR1⊢
 refine⟨_,rfl,Rr,_,rfl,.inl (Qh hR1),_,rfl,Om,Om,fun Pp hPp=>?_⟩
 rw[lv,zK]
 refine Vf (α:=Nat) (β:=Nat) (xs:=List.range rs.length) (val:=fun k=>V.int ((k:Nat):Int)) (fun H v k=>∃T',T'≠Pp/\v=V.ref T'/\SqT K H T' [.int ((k:Nat):Int),.int (qs.getD k 0)]) id rfl Vc (by rw[jV];lia) hPp (fun _ s ⟨T',n',e,h⟩=>⟨T',n',e,s.tup h⟩) (fun⟨T',n',e,h⟩=>⟨T',n',e,Qgl n' h⟩) (fun k hk H2 s2 hD2 Pp' h=>?_) fun H2 ys s2 h2 hp=>?_
 .have hk':=xX.mp hk
  have s12:=s1.trans s2
  refine⟨_,rfl,_,rfl,ct,_,_,_,rfl,rfl,s12.tup hct,at1,_,rfl,w,_,_,_,rfl,rfl,s12.seq hw,Qak Om,by show 2<=sizeLine;decide,fun T' hT'=>?_⟩
  exact h _ _ (Qd hT' _) ⟨T',fun z=>hD2 (by rw[<-z];exact hT'),rfl,Qy Qc⟩
 rw[kJf]at hp
 have hps:PairsAre K H2 ys (((List.range rs.length).map fun k=>(((k:Nat):Int),qs.getD k 0)).map fun p=>(p.1,V.int p.2)):=by
  rw[xW]
  refine Qeg (fun _ _ ⟨T',_,e,h⟩=>⟨T',e,h⟩) hp
 have s02:=s1.trans s2
 refine nx_cut (fun σ H3=>∃(us' zs':List V),σ=[some (.ref t),some (Vp o),some (.ref ct),some (.ref hh),some (.int (((cs.map V.int).length:Nat):Int)),some (.ref Rr),some (.ref Pp),none,none,none,none]/\SqL K H3 Rr us'/\RowsAre K H3 us' (Yb rs cs o)/\SqL K H3 Pp zs'/\PairsAre K H3 zs' (((List.range (Yb rs cs o).length).map fun k=>(((k:Nat):Int),(qs++[q0]).getD k 0)).map fun p=>(p.1,V.int p.2))/\Same H H3) ?_ fun REST=>?_
 .rintro σ H3 ⟨us',zs',rfl,hR3,hrw3,hP3,hps3,s3⟩
  have hR1:∀r∈Yb rs cs o,r.1.length=cs.length:=fun r hr=>by
   cases o with
   |none=>exact hr1 r hr
   |some b=>
    rcases zY.mp hr with z | z
    .exact hr1 r z
    .rw[yW.mp z];show(cs.map fun c=>-c).length=_;rw[jQ]
  have hRl:(Yb rs cs o).length<=rs.length+1:=by
   cases o with
   |none=>exact Nat.le_succ _
   |some b=>show(rs++[Za cs b]).length<=_;rw[kZ];exact jY _
  have lts:(qs++[q0]).length=rs.length+1:=by rw[kZ,lq];rfl
  have hnn:∀k,0<=(qs++[q0]).getD k 0/\(qs++[q0]).getD k 0<2 ^ 64:=fun k=>by
   by_cases hk:k<(qs++[q0]).length
   .rw[jZ,gE hk];exact hb _ (jQf _)
   .rw[jZ,kQd Om];decide
  refine⟨_,rfl,_,rfl,_,rfl,Rr,Pp,cs.length,us',Yb rs cs o,_,(by rw[lc];rfl),hR3,hrw3,⟨zs',hP3,hps3⟩,Om,hR1,fun p hp'=>?_,fun tr H4 s4 htr=>?_⟩
  .obtain⟨k,hk,e⟩:=kY.mp hp'
   have:=xX.mp hk
   have:=hnn k
   rw[<-e]
   exact⟨by show(0:Int)<=((k:Nat):Int);lia,by show((k:Nat):Int)<_;lia,by show -(2 ^ 64)<(qs++[q0]).getD k 0;lia,this.2⟩
  have etot:((List.range (Yb rs cs o).length).map fun k=>(((k:Nat):Int),(qs++[q0]).getD k 0)).map (Qal (Yb rs cs o))=(List.range (Yb rs cs o).length).map fun k=>(rowK (Yb rs cs o) k,(qs++[q0]).getD k 0):=by
   rw[xW]
   refine xZ fun k _=>?_
   show((Yb rs cs o).getD (((k:Nat):Int)).toNat ([],0),_)=_
   rw[zK];rfl
  rw[etot,Qml (fun k=>(hnn k).1) hR1]at htr
  have has:∀k∈Jb (Yb rs cs o).length (qs++[q0]),k<(Yb rs cs o).length/\(0<=(qs++[q0]).getD k 0/\(qs++[q0]).getD k 0<2 ^ 64)/\(rowK (Yb rs cs o) k).1.length=cs.length/\(Yb rs cs o)[k]?=some (rowK (Yb rs cs o) k):=fun k hk=>by
   have k3:=xX.mp (jYa.mp hk).1
   have e:rowK (Yb rs cs o) k=(Yb rs cs o)[k]:=by unfold rowK;rw[jZ,gE k3];rfl
   exact⟨k3,hnn k,by rw[e];exact hR1 _ (jQf _),by rw[e];exact gE k3⟩
  have lal:(Jb (Yb rs cs o).length (qs++[q0])).length<=(Yb rs cs o).length:=jQb (jXe ..) (by rw[jV];exact jY _)
  generalize hAS:Jb (Yb rs cs o).length (qs++[q0])=as at htr has lal
  have lt:(Xo cs.length (Yb rs cs o) as (qs++[q0])).1.length=cs.length:=Jm _ _ fun p hp'=>by
   obtain⟨k,hk,e⟩:=kY.mp hp'
   rw[<-e];exact(has k hk).2.2.1
  have hne:roomF cs.length (hv hs) (Xo cs.length (Yb rs cs o) as (qs++[q0]))<0->as≠[]:=fun z e=>by
   rw[e]at z
   refine absurd z (Int.not_lt.mpr ?_)
   have e0:sumN cs.length (fun j=>addF (hv hs j) ((List.replicate cs.length (0:Int)).getD j 0))=0:=by
    unfold sumN
    have:((List.range cs.length).map fun j=>addF (hv hs j) ((List.replicate cs.length (0:Int)).getD j 0))=(List.range cs.length).map fun _=>(0:Int):=xZ fun j hj=>by
     rw[jZ,kKb,if_pos (xX.mp hj)]
     show addF (hv hs j) 0=0
     unfold addF
     cases hv hs j<;>simp
    rw[this]
    generalize List.range cs.length=xs
    induction xs with
    |nil=>rfl
    |cons _ _ ih=>rw[yX,jJc,ih];rfl
   show 0<=sumN cs.length (fun j=>addF (hv hs j) ((List.replicate cs.length (0:Int)).getD j 0))-0
   rw[e0];decide
  have s04:=s3.trans s4
  refine⟨_,rfl,t,rs,cs,rfl,hP.same s04,Om,fun T g1 H5 s5 fg1 hPL=>?_⟩
  obtain⟨hws,hhl,hhp⟩:=id hhs
  refine⟨_,rfl,hh,hws,rfl,.inl (s5.seq (s04.seq hhl)),fun l2 fl2=>?_⟩
  refine⟨by show 2<=sizeLine;decide,fun hd fhd=>?_⟩
  have s56:=(Qd fl2 (.lst hws)).trans (Qd fhd (.lst [.ref T,.ref l2]))
  have hl2:=(Qd fhd (.lst [.ref T,.ref l2])) _ _ (Qc (H:=H5) (a:=l2) (o:=.lst hws))
  have hhd:upd (upd H5 l2 (.lst hws)) hd (.lst [.ref T,.ref l2]) hd=some (.lst [.ref T,.ref l2]):=Qc
  generalize upd (upd H5 l2 (.lst hws)) hd (.lst [.ref T,.ref l2])=H6 at hl2 hhd s56⊢
  have s46:=s5.trans s56
  have s06:=s04.trans s46
  have hP6:=hPL.same s56
  have hl6:HoldsAt K H6 l2 hs:=⟨hws,Qh hl2,PairsAre.same s06 hhp⟩
  have htr6:=htr.same s46
  have hDD:∀{Hx:Hp} {e:Addr},Same H6 Hx->Hx e=none->HasD K (upd Hx e (.lst [.ref t,.ref hh])) (.ref hd) (.lst [Qkg rs cs,.lst (hs.map Qlw)])/\HasD K (upd Hx e (.lst [.ref t,.ref hh])) (.ref e) (.lst [Qkg rs cs,.lst (hs.map Qlw)]):=fun{Hx e} sx fe=>by
   have se:=sx.trans (Qd fe (.lst [.ref t,.ref hh]))
   exact⟨Qql (Qh (se _ _ hhd)) (ProbAt.hasD (hP6.same se).at) (HoldsAt.hasD (hl6.same se)),Qql (Qh Qc) (ProbAt.hasD (ProbAt.same (s06.trans se) hP)) (HoldsAt.hasD (hhs.same (s06.trans se)))⟩
  let Pv28:Nat->St->Hp->Prop:=fun j σ H7=>(∃u9 u10:Option V,σ=[some (.ref t),some (Vp o),some (.ref ct),some (.ref hh),some (.int (((cs.map V.int).length:Nat):Int)),some (.ref Rr),some (.ref Pp),some (.ref tr),some (.ref hd),u9,u10])/\Same H6 H7
  refine⟨2,rfl,Dc,Dc,Jk (lo:=0) (n:=(2:Int).toNat) Pv28 ⟨⟨_,_,rfl⟩,Same.refl _⟩ ?_ ?_⟩
  .rintro j σ H7 hj ⟨⟨u9,u10,rfl⟩,s7⟩
   have s07:=s06.trans s7
   refine⟨_,rfl,hd,_,_,_,rfl,rfl,Qh (s7 _ _ hhd),at0,_,rfl,_,rfl,ct,_,_,_,rfl,rfl,s07.tup hct,at0,_,rfl,ct,_,_,_,rfl,rfl,s07.tup hct,at1,w,_,rfl,.inl ⟨s07.seq hw,fun w2 hw2=>?_⟩⟩
   refine⟨by show 2<=sizeLine;decide,fun mu hmu=>?_⟩
   have s8:=(Qd hw2 (.tup (qs.map V.int))).trans (Qd hmu (.tup [.int q0,.ref w2]))
   have hw8:=(Qd hmu (.tup [.int q0,.ref w2])).tup (Qy (K:=K) (Qc (H:=H7) (a:=w2) (o:=.tup (qs.map V.int))))
   have hm8:SqT K (upd (upd H7 w2 (.tup (qs.map V.int))) mu (.tup [.int q0,.ref w2])) mu [.int q0,.ref w2]:=Qy Qc
   generalize upd (upd H7 w2 (.tup (qs.map V.int))) mu (.tup [.int q0,.ref w2])=H8 at s8 hw8 hm8⊢
   have s68:=s7.trans s8
   refine⟨_,rfl,hd,_,_,_,rfl,rfl,Qh (s68 _ _ hhd),at1,T,g1,mu,w2,l2,rs,cs,o,q0,qs,hs,rfl,hP6.same s68,h7,m7,hm8,hw8,hl6.same s68,hG,lh,lq,hb,hr1,?_⟩
   rw[hAS]
   refine⟨fun hroom H9 s9=>?_,fun hroom L H9 s9 hBd=>?_⟩
   .have s69:=s68.trans s9
    refine⟨_,rfl,_,rfl,_,rfl,by show 2<=sizeLine;decide,fun e fe=>?_⟩
    obtain⟨d1,d2⟩:=hDD s69 fe
    refine⟨hd,e,_,_,rfl,rfl,d1,d2,Kr (n:=5) (Qac (n:=1) rs rs cs cs) (Vk (n:=3) hs hs),fun c' hc'=>?_⟩
    rw[hc'.mpr rfl]
    have s9e:=s69.trans (Qd fe (.lst [.ref t,.ref hh]))
    generalize upd H9 e (.lst [.ref t,.ref hh])=H9e at s9e⊢
    refine⟨_,rfl,iteF ⟨_,rfl,_,rfl,tr,hh,Xo cs.length (Yb rs cs o) as (qs++[q0]),hs,rfl,htr6.same s9e,hhs.same (s06.trans s9e),by rw[lt];exact hG,Om,Om,fun H10 s10=>?_⟩⟩
    have s610:=s9e.trans s10
    obtain⟨ctr,htr1,htr2⟩:=htr6.same s610
    rw[lt]
    refine⟨_,rfl,tr,_,_,_,rfl,rfl,htr1,at1,_,_,rfl,rfl,_,rfl,ite2 (fun cc=>?_) (fun cc=>absurd (kW (show(Xo cs.length (Yb rs cs o) as (qs++[q0])).2<=roomF cs.length (hv hs) (Xo cs.length (Yb rs cs o) as (qs++[q0]))+(Xo cs.length (Yb rs cs o) as (qs++[q0])).2 by lia)) cc)⟩
    exact⟨_,rfl,rfl,q _ (s06.trans s610)⟩
   .have s69:=s68.trans s9
    have hL9:∃xs,H9 L=some (.lst xs):=let ⟨ls,us,ws,sA,P',hA,G,hL,_⟩:=hBd;⟨_,hL⟩
    have s89:Same H7 H9:=s8.trans s9
    refine⟨_,rfl,_,rfl,_,rfl,by show 2<=sizeLine;decide,fun e fe=>?_⟩
    obtain⟨d1,d2⟩:=hDD s69 fe
    refine⟨hd,e,_,_,rfl,rfl,d1,d2,Kr (n:=5) (Qac (n:=1) rs rs cs cs) (Vk (n:=3) hs hs),fun c' hc'=>?_⟩
    rw[hc'.mpr rfl]
    have s9a:=Qd fe (.lst [.ref t,.ref hh])
    generalize upd H9 e (.lst [.ref t,.ref hh])=H9e at s9a⊢
    have s9e:=s69.trans s9a
    refine⟨_,rfl,iteF ⟨_,rfl,_,rfl,tr,hh,Xo cs.length (Yb rs cs o) as (qs++[q0]),hs,rfl,htr6.same s9e,hhs.same (s06.trans s9e),by rw[lt];exact hG,Om,Om,fun H10 s10=>?_⟩⟩
    have s610:=s9e.trans s10
    obtain⟨ctr,htr1,htr2⟩:=htr6.same s610
    rw[lt]
    refine⟨_,rfl,tr,_,_,_,rfl,rfl,htr1,at1,_,_,rfl,rfl,_,rfl,ite2 (fun cc=>absurd (kK cc) (show ¬(Xo cs.length (Yb rs cs o) as (qs++[q0])).2<=roomF cs.length (hv hs) (Xo cs.length (Yb rs cs o) as (qs++[q0]))+(Xo cs.length (Yb rs cs o) as (qs++[q0])).2 by lia)) (fun cc=>?_)⟩
    have s910:=s9a.trans s10
    have B10:=BdAt.same hBd s910
    refine⟨_,rfl,_,rfl,_,rfl,t,L,rs,Yb rs cs o,cs,o,as,qs++[q0],hs,H8,rfl,ProbAt.same (s06.trans s610) hP,Om,B10,⟨hne hroom,Om,Om,rfl⟩,has,lt,hG,hroom,fun tl H11 s11 htl=>?_⟩
    refine⟨_,rfl,_,rfl,hh,cs.length,hs,(by rw[lc];rfl),hhs.same (s06.trans (s610.trans s11)),hG,Om,Om,fun tsh H12 s12 hts=>?_⟩
    refine⟨tl,tsh,_,_,rfl,rfl,RowAt.hasD (htl.same s12),RowAt.hasD hts,Va (n:=5) (Qab _ _) (.int _ _),fun c2 hc2=>?_⟩
    rw[hc2.mpr rfl]
    have s1012:=s11.trans s12
    refine⟨_,rfl,iteF ⟨_,rfl,L,_,as,_,hs,H8,rfl,BdAt.same B10 s1012,Om,Om,(s9.trans s910).trans s1012,fun H13 s13=>⟨⟨_,_,rfl⟩,s68.trans s13⟩⟩⟩
  .rintro σ H7 ⟨⟨u9,u10,rfl⟩,s7⟩
   refine⟨_,rfl,_,rfl,_,rfl,by show 2<=sizeLine;decide,fun e fe=>?_⟩
   obtain⟨d1,d2⟩:=hDD s7 fe
   refine⟨hd,e,_,_,rfl,rfl,d1,d2,Kr (n:=5) (Qac (n:=1) rs rs cs cs) (Vk (n:=3) hs hs),fun c' hc'=>?_⟩
   rw[hc'.mpr rfl]
   exact q _ ((s06.trans s7).trans (Qd fe _))
 have eT:∀k,k<rs.length->(qs++[q0]).getD k 0=qs.getD k 0:=fun k hk=>by rw[jZ,jZ,jZa Om]
 have eP:((List.range rs.length).map fun k=>(((k:Nat):Int),qs.getD k 0))=(List.range rs.length).map fun k=>(((k:Nat):Int),(qs++[q0]).getD k 0):=xZ fun k hk=>by rw[eT k (xX.mp hk)]
 rw[eP]at hps
 cases o with
 |none=>
  exact⟨_,rfl,rfl,_,rfl,iteF (REST _ _ ⟨vs,ys,rfl,Qh (s2 _ _ hR1),hrw.imp fun _ _ z=>z.same s02,Qh h2,hps,s02⟩)⟩
 |some b=>
  have nRP:Pp≠Rr:=fun z=>by rw[z,hR1]at hPp;cases hPp
  have hR2:=s2 _ _ hR1
  refine⟨_,rfl,rfl,_,rfl,iteT ?_⟩
  refine⟨_,rfl,.inl ⟨rfl,_,Qh hR2⟩,_,rfl,t,_,_,_,rfl,rfl,s02.tup ht,at1,c,rfl,⟨_,s02.tup hc⟩,fun D hD=>?_⟩
  refine Zi (xs:=cs) (val:=V.int) V.int (fun x=>0-x) rfl (Ke (s02.tup hc)) Om hD (fun x hx H3 s3 P' h=>⟨_,rfl,_,_,rfl,rfl,h H3 fun _ _ z=>z⟩) fun H3 s3 h3=>?_
  rw[Qmh]at h3
  refine⟨D,_,rfl,.inl ⟨Qh h3,fun l2 hl2=>⟨_,rfl,_,_,rfl,rfl,by show 2<=sizeLine;decide,fun t2 ht2=>?_⟩⟩⟩
  have hrow:=Qcq (K:=K) (H:=H3) (l:=l2) (t:=t2) (ns:=cs.map fun c=>-c) (z:=1-b) ht2
  have s4:=(Qd hl2 (.tup ((cs.map fun c=>-c).map V.int))).trans (Qd ht2 (.tup [.ref l2,.int (1-b)]))
  generalize upd (upd H3 l2 (.tup ((cs.map fun c=>-c).map V.int))) t2 (.tup [.ref l2,.int (1-b)])=H4 at hrow s4⊢
  have s34:=s3.trans s4
  refine⟨Rr,vs,_,rfl,rfl,s34 _ _ hR2,Om,?_⟩
  have hR5:upd H4 Rr (.lst (vs++[.ref t2])) Rr=some (.lst (vs++[.ref t2])):=Qc
  have hP5:upd H4 Rr (.lst (vs++[.ref t2])) Pp=some (.lst ys):=by rw[Qj nRP];exact s34 _ _ h2
  have s05:Same H (upd H4 Rr (.lst (vs++[.ref t2]))):=fun b' o e=>by rw[Qj (Qk e hRr)];exact s34 _ _ (s02 _ _ e)
  have hrs5:RowsAre K (upd H4 Rr (.lst (vs++[.ref t2]))) (vs++[.ref t2]) (Yb rs cs (some b)):=(RowsAre.snoc (hrw.imp fun _ _ z=>(z.same s02).same s34) hrow).imp fun _ _ z=>RowAt.upd (s34 _ _ hR2) z
  have hps5:PairsAre K (upd H4 Rr (.lst (vs++[.ref t2]))) ys (((List.range rs.length).map fun k=>(((k:Nat):Int),(qs++[q0]).getD k 0)).map fun p=>(p.1,V.int p.2)):=PairsAre.imp' hps fun t xs z=>Yx (s34 _ _ hR2) (s34.tup z)
  generalize upd H4 Rr (.lst (vs++[.ref t2]))=H5 at hR5 hP5 s05 hrs5 hps5⊢
  refine⟨_,rfl,.inl ⟨rfl,_,Qh hP5⟩,_,rfl,Rr,_,rfl,.inl (Qh hR5),_,_,rfl,rfl,_,rfl,ct,_,_,_,rfl,rfl,s05.tup hct,at0,by show 2<=sizeLine;decide,fun T6 hT6=>?_⟩
  have ly:=hps5.length
  rw[jQ,jQ,jV]at ly
  have e7:(((vs++[V.ref t2]).length:Nat):Int)-1=((rs.length:Nat):Int):=by rw[kZ];show(((vs.length+1:Nat)):Int)-1=_;lia
  have s6:=Qd hT6 (.tup [.int ((((vs++[V.ref t2]).length:Nat):Int)-1),.int q0])
  have hT7:SqT K (upd H5 T6 (.tup [.int ((((vs++[V.ref t2]).length:Nat):Int)-1),.int q0])) T6 [.int ((rs.length:Nat):Int),.int q0]:=by rw[<-e7];exact Qy Qc
  refine⟨Pp,ys,_,rfl,rfl,s6 _ _ hP5,Om,REST _ _ ⟨vs++[.ref t2],ys++[.ref T6],rfl,?_,?_,Qh Qc,?_,fun b' o e=>?_⟩⟩
  .exact Qh (by rw[Qj nRP.symm];exact s6 _ _ hR5)
  .exact hrs5.imp fun _ _ z=>RowAt.upd (s6 _ _ hP5) (z.same s6)
  .have e8:(Yb rs cs (some b)).length=rs.length+1:=by show(rs++[Za cs b]).length=_;rw[kZ];rfl
   rw[e8,jJb,yK,yK]
   refine Kq (PairsAre.imp' hps5 fun t xs z=>Yx (s6 _ _ hP5) (s6.tup z)) ⟨T6,rfl,Yx (s6 _ _ hP5) ?_⟩
   have e9:(qs++[q0]).getD rs.length 0=q0:=by rw[jZ,wZ Om,lq,kZf];rfl
   show SqT K _ T6 [.int ((rs.length:Nat):Int),.int ((qs++[q0]).getD rs.length 0)]
   rw[e9]
   exact hT7
  .rw[Qj (Qk (s1 _ _ e) hPp)];exact s6 _ _ (s05 _ _ e)
end
end Nb
namespace L2
open PySem PySem.Spec PyProof.Rows
end L2
namespace L2
open PySem PySem.Spec PyProof.Rows PySem.SeqAt
section
variable{X:Cx}
open Classical in
def rCatA(K:Fg):R2:=fun x y H Q=>∃a b xs ys,x=.ref a/\y=.ref b/\SqT K H a xs/\SqT K H b ys/\xs.length+ys.length<=sizeLine/\∀(p:Addr) (H':Hp),Same H H'->SqT K H' p (xs++ys)->Q (.ref p) H'
theorem Qmm:OpR X (binaryOp .Add) (rCatA X.K):=by
 intro pins s σ H x y v u Q I rx ry h
 obtain⟨a,b,xs,ys,rfl,rfl,ha,hb,hz,q⟩:=h
 by_cases hy:ys=[]
 .subst hy
  by_cases hx:xs=[]
  .subst hx
   cases rx
   cases ry
   obtain⟨its,r1,p1,_⟩:=I.tuple ha
   obtain⟨its2,r2,p2,_⟩:=I.tuple hb
   have e0:its=[]:=r1.nil_iff.mpr rfl
   subst e0
   obtain⟨⟨c1,d1,da1,sl1⟩,ho,hc,n,hd⟩:=id p1
   obtain⟨⟨c2,d2,da2,sl2⟩,ho2,hc2,n2,hd2⟩:=id p2
   simp only at hc hd hc2 hd2
   subst hc hd hc2 hd2
   exact concat_meets ⟨_,ho,rfl⟩ ⟨_,ho2,rfl⟩ noFill_tuple_add seq_tuple_add PySem.F.slot_tuple_add PySem.F.entry_tuple_add (PySem.F.args_tuple_add_2 _ _) (tuple_addW0 a b ([]:List Value).toArray its2.toArray n n2 d1 d2 sl1 sl2 (by simp)) ⟨ho,ho2,⟨.ref b,H,I,rfl,q b H (Same.refl H) hb⟩⟩
  .exact Qjk pins s σ H (.ref a) (.ref b) v u Q I rx ry ⟨a,b,xs,[],rfl,rfl,ha,hb,hx,hz,fun _=>q a H (Same.refl H) (by rw[kKf];exact ha),fun z=>absurd rfl z⟩
 .exact Qrv pins s σ H (.ref a) (.ref b) v u Q I rx ry ⟨a,b,xs,ys,rfl,rfl,ha,hb,hy,hz,q⟩
end
section
variable{prog:Program}{w:World}{A:Around}{E:Value->Shared->Prop}{s:Shared}{l:Addr}{xs:Array (Int×Tok)}
theorem Qht{Q:Value->Shared->Prop}(hh:A.handled=none)(hl:s.heap.IsTuple l (intItems xs))(hne:0<xs.size)
  (h:∀v h' tk,(intItems xs)[argBest (fun i j=>decide (numAt xs i > numAt xs j)) (xs.size-1)]?=some v->(∀b o,s.heap.get? b=some o->h'.get? b=some o)->Q v { s with heap:=h',toks:=tk }) :
  wpAny (model prog w) A (call (.builtin "max") [.ref l]) Q E s:=by
 have hlt:l<s.heap.objs.size:=by obtain⟨_,e,_⟩:=hl;exact yY e
 refine call_max_walk (wpAny_pyIter_tuple hl ?_)
 refine⟨_,[s.heap.objs.size,l],[s.heap.objs.size],_,_,_,_,rfl,Walks.tuple (A:=A.in1) hh _ l (zJ hlt) (intItems xs),
  ⟨⟨_,yJ _ rfl,rfl,rfl⟩,hl.push _⟩,fun c hc=>?_,by simpa[intItems]using hne,CmpOf.ints_gt (numAt xs) (fun _ _=>intItems_at),fun v h' tk hP hk=>?_⟩
 .show c<(s.heap.push _).objs.size
  rw[jJa]
  rcases kQ.mp hc with rfl | hc
  .exact jJd _
  .rcases kQ.mp hc with rfl | hc
   .exact jKc hlt
   .cases hc
 .refine h v h' tk (by simpa[intItems]using hP) fun b o e=>?_
  refine hk b o (fun hm=>?_) (jK _ e)
  rcases kQ.mp hm with e1 | hm
  .exact absurd (e1▸yY e) (wW _)
  .cases hm
end
section
variable{X:Cx}
theorem Qhu{K:Fg}(hK:X.K=K)(hc:X.calm=true):Zv X (.builtin "max") (fun xs H Q=>∃(a:Addr) (ns:List Int),xs=[.ref a]/\SqT K H a (ns.map V.int)/\ns≠[]/\∀m,m∈ns->(∀x∈ns,x<=m)->Q (.int m) H):=by
 subst hK
 intro pins s σ H xs us Q I rv h
 obtain⟨a,ns,rfl,hq,hne,q⟩:=h
 obtain⟨u,rfl,ru⟩:=rv.one
 cases ru
 obtain⟨its,r,p,hz⟩:=I.tuple hq
 have hi:IntsAre its.toArray.toList ns:=intsAre_of r
 obtain⟨xs,hx⟩:=hi.allInts.items
 have hl':s.heap.IsTuple a (intItems xs):=hx▸p
 have e1:ns=xs.toList.map (·.1):=by rw[<-nums_intItems,<-hx];exact(show numsOf its.toArray.toList=ns from hi.numsOf).symm
 have ls:xs.size=ns.length:=by rw[e1];simp
 have hp:0<xs.size:=by rw[ls];exact List.length_pos_iff.mpr hne
 have at':∀i,i<xs.size->ns[i]?=some (numAt xs i):=fun i hi=>by rw[e1];simp[numAt,hi]
 obtain⟨b1,b2⟩:=argBest_gt (numAt xs) (xs.size-1)
 refine Qht (I.ok.hd hc) hl' hp fun v h' tk hv hk=>?_
 obtain⟨t,rfl⟩:=intItems_at hv
 refine⟨.int _,H,I.kept hk,⟨_,rfl⟩,q _ (yQ (at' _ Om)) fun x hx=>?_⟩
 obtain⟨i,hi,rfl⟩:=List.mem_iff_getElem.mp hx
 have h2:=at' i Om
 rw[gE hi]at h2
 have h3:ns[i]=numAt xs i:=Option.some.inj h2
 rw[h3]
 exact b2 i Om
end
end L2
namespace Nb
open PySem L2
theorem cut_to{xs:List V}{k:Nat}(h:k<=xs.length):cutV xs none (some ((k:Nat):Int))=xs.take k:=by
 unfold cutV
 have e1:HT.sIx xs.length 0 none=0:=rfl
 have e2:HT.sIx xs.length xs.length (some ((k:Nat):Int))=k:=by
  show(if ((k:Nat):Int)<0 then(((k:Nat):Int)+((xs.length:Nat):Int)).toNat else min ((k:Nat):Int).toNat xs.length)=k
  rw[if_neg Om]
  lia
 rw[e1,e2,List.drop_zero,Nat.sub_zero]
theorem at_hd{x:V}{xs:List V}:atI (x::xs) 0=some x:=by
 have e:ixN (x::xs).length 0=some 0:=by unfold ixN;simp
 unfold atI
 rw[e]
 rfl
theorem Qsw{α:Type}{xs:List α}:(xs.map fun _=>true).all id=true:=jJe.mpr fun y hy=>by
 obtain⟨_,_,e⟩:=kY.mp hy
 exact e.symm
theorem Qsx{x:V}{xs:List V}:cutV (x::xs) (some 1) none=xs:=by
 unfold cutV
 have e1:HT.sIx (x::xs).length 0 (some 1)=1:=by
  show(if (1:Int)<0 then((1:Int)+(((x::xs).length:Nat):Int)).toNat else min (1:Int).toNat (x::xs).length)=1
  rw[if_neg Dc,xQ]
  show min 1 (xs.length+1)=1
  lia
 have e2:HT.sIx (x::xs).length (x::xs).length none=(x::xs).length:=rfl
 rw[e1,e2]
 show xs.take _=xs
 exact jXc (by rw[xQ];lia)
theorem Good.take{n:Nat}{hs:List (Int×Int)}(h:Good n hs)(k:Nat):Good n (hs.take k) :=
 ⟨by rw[List.map_take];exact h.nd.sublist (List.take_sublist ..),fun p hp=>h.ok p (kZb hp)⟩
abbrev sLaw:Stmt:=top 50
section
variable{P:Program}{w:World}{K:Fg}{mg:Str->Option Value}{base:Heap}
theorem scLaw:FnScope ["_law_script","_law_many","_law_problem_here","_law_best_here","_law_left_here","_law_holds_here","_law_counts","_law_k","_law_found"] ["_law_script"] (Qg sLaw):=⟨rfl,rfl,rfl,Dk,rfl,Dk,Dk⟩
theorem okLaw{f:Addr}{fd:FuncData}(F:Fun K "law" "law" sLaw f fd)(M:Mg mg)(cl_cell_at:Cal P w K mg base 1 "_law_cell_at" ["_law_script","_law_k"] (Qdw K))(cl_problem:Cal P w K mg base 3 "_law_problem" ["_law_script","_law_many","_law_count"] (Qaf K))(cl_best:Cal P w K mg base 2 "_law_best" ["_law_script"] (Qmf K))(cl_holds:Cal P w K mg base 1 "_law_holds" ["_law_left_here","_law_many"] (Qqf K))(cl_right:Cal P w K mg base 6 "_law_right" ["_law_problem_here","_law_best_here","_law_counts","_law_holds_here"] (spRgt K))(c_corner:Cal P w K mg base 6 "corner" ["rows","costs"] (spCor K))(cl_whole:Cal P w K mg base 1 "_law_whole" ["_law_found"] (Wz)):FnOk P w K mg base CX0 7 f fd ["_law_script"] (Qno K):=by
 refine F.ok scLaw (fun vs H Q E h=>?_) (fun cdv A outer s H vs Q E hr h=>?_)
 .obtain⟨a,ns,rfl,_⟩:=h
  rfl
 obtain⟨a,ns,rfl,hS,h63,q⟩:=h
 refine⟨_,(Qb (Qp (i:=1) scLaw.nd rfl (Or.inl rfl) (Qn Zd (Xh cl_cell_at (hr.mono Dc) (Qa (pv 0) (Qa Qf Qe))) Qf))
  (Qb (Qp (i:=2) scLaw.nd rfl (Or.inl rfl) (Xh cl_problem (hr.mono Dc) (Qa (pv 0) (Qa (pv 1) (Qa (Qn Zd (Qn Zj (Xh cl_cell_at (hr.mono Dc) (Qa (pv 0) (Qa Qf Qe))) Qf) Qf) Qe)))))
  (Qb (Qp (i:=3) scLaw.nd rfl (Or.inl rfl) (Xh cl_best (hr.mono Dc) (Qa (pv 0) Qe)))
  (Qb (Qp (i:=4) scLaw.nd rfl (Or.inl rfl) (Xh cl_cell_at (hr.mono Dc) (Qa (pv 0) (Qa Qf Qe))))
  (Qb (Qp (i:=5) scLaw.nd rfl (Or.inl rfl) (Xh cl_holds (hr.mono Dc) (Qa (pv 4) (Qa (pv 1) Qe))))
  (Qb (Qp (i:=4) scLaw.nd rfl (Or.inl rfl) (Qn Qne (pv 4) (Qn Wj Qf Qf)))
  (Qb (Qp (i:=6) scLaw.nd rfl (Or.inl rfl) (Xz Qe))
  (Qb (Yf PassesOwn.never rfl (Yo rfl M.range_ (Qa (Qn Yi (Ql Qm rfl M.len Xl (Qa (Qo Qu (pv 2) Qf (fun _ _=>rfl)) Qe)) Qf) Qe)) (Qx (i:=7) scLaw.nd rfl (Or.inl rfl) (Or.inl rfl)) (Qb (Ys (Vw PySem.F.plainAttrs_list PySem.F.slot_list_append PySem.F.type_list_append Yp (pv 6) (Qa (Qn Zd (pv 4) Qf) Qe)))
  (Qi (Qp (i:=4) scLaw.nd rfl (Or.inl rfl) (Qn Zj (pv 4) Qf)))))
  (Qb (Xi (Jg (Xj (Xh cl_right (hr.mono Dc) (Qa (pv 2) (Qa (pv 3) (Qa (Xk (Qa (Qo Qw (pv 6) Qf (fun _ _=>rfl)) (Qa (Qbn Qer (pv 6) (Qeo Qf) Qen) Qe))) (Qa (pv 5) Qe))))))) (Qi (Qs Km)) Qv)
  (Qb (Qp (i:=8) scLaw.nd rfl (Or.inl rfl) (Qo Qu (Xh c_corner (hr.mono Dc) (Qa (Qo Qu (pv 2) Qf (fun _ _=>rfl)) (Qa (Qo Qu (pv 2) Qf (fun _ _=>rfl)) Qe))) Qf (fun _ _=>rfl)))
  (Qb (Xi (PW.pt (Wh (Qr Qha (Ql Qm rfl M.len Xl (Qa (Qo Qu (pv 8) Qf (fun _ _=>rfl)) Qe)) (Ql Qm rfl M.len Xl (Qa (Qo Qu (pv 2) Qf (fun _ _=>rfl)) Qe)) (Qt _)) (Kv (Jg (Xj (Ql (Ky rfl) rfl M.all Qga (Qa (Zm ["_law_count"] [none] rfl (Ki (Qn Qmm (Xk (Qa (Qo Qu (pv 8) Qf (fun _ _=>rfl)) Qe)) (Qo Qu (pv 8) Qf (fun _ _=>rfl)))) (fun _ _ _=>(Qx (i:=0) (show(["_law_count"]:List Str).Nodup by decide +kernel) rfl (Or.inl rfl) (Or.inr rfl))) (fun _ _ _=>Xy) (fun _ _ _=>(Xh cl_whole (hr.mono Dc) (Qa (pv 0) Qe)))) Qe))))))) (Qi (Qs Km)) Qv)
  (Qb (Xi (Qr Qhb (Ql (Qhu (K:=K) rfl rfl) rfl M.max Qdl (Qa (Qn Qmm (Xk (Qa (Qo Qu (pv 8) Qf (fun _ _=>rfl)) Qe)) (Qo Qu (pv 8) Qf (fun _ _=>rfl))) Qe)) (Qn Wj Qf Qf) (Qt _)) (Qi (Qs Km)) Qv)
  (Qb (Qp (i:=6) scLaw.nd rfl (Or.inl rfl) (Xk (Qa (Qo Qu (pv 8) Qf (fun _ _=>rfl)) (Qa (Qz Xv rfl M.list_ Yv (Qa (Qo Qu (pv 8) Qf (fun _ _=>rfl)) Qe)) Qe))))
  (Qi (Qs (Qaq (Xh cl_right (hr.mono Dc) (Qa (pv 2) (Qa (pv 3) (Qa (pv 6) (Qa (Qbn Qer (pv 5) Qen (Qeo (Qn Zj (Ql Qm rfl M.len Xl (Qa (pv 5) Qe)) Qf))) Qe))))) (Qcw (Xh cl_right (hr.mono Dc) (Qa (pv 2) (Qa (pv 3) (Qa (pv 6) (Qa (Xz Qe) Qe)))))))))))))))))))))),?_⟩
 have hz:(1000:Nat)<sizeLine:=Dc
 refine⟨_,rfl,a,ns,0,rfl,hS,Dc,fun z0=>⟨_,_,rfl,rfl,(by show(0:Int)<_;decide +kernel),?_⟩⟩
 have m0:=jYc z0 (show(8:Int)≠0 by decide)
 have m1:=jYd z0 (show(0:Int)<8 by decide)
 refine⟨_,rfl,_,rfl,_,rfl,a,ns,0,rfl,hS,Dc,fun z1=>⟨_,_,rfl,rfl,⟨Dc,Dc⟩,_,_,rfl,rfl,(by show(0:Int)<_;decide +kernel),?_⟩⟩
 have n0:=jYc (z1 / 8) (show(8:Int)≠0 by decide)
 have n1:=jYd (z1 / 8) (show(0:Int)<8 by decide)
 refine⟨a,ns,_,_,rfl,hS,m0,Om,n0,Om,fun t b H1 s1 pt ok en em=>?_⟩
 have n7:=ok.n7
 have m7:=ok.m7
 refine⟨_,rfl,a,ns,rfl,s1.seq hS,fun o H2 s2=>?_⟩
 refine⟨_,rfl,a,ns,2,rfl,(s1.trans s2).seq hS,Dc,fun z2=>?_⟩
 refine⟨_,rfl,_,rfl,z2,b.n,by rw[en];rfl,Om,fun g hs ws H3 s3 fg hg hpa hG hlen=>?_⟩
 have s13:Same H1 H3:=s2.trans s3
 obtain⟨l,c,us,ht,hl,hrw,hc⟩:=id (ProbAt.same s13 pt)
 have pt3:=ProbAt.same s13 pt
 have lu:us.length=b.m:=hrw.length
 have lr:b.rs.length=b.m:=rfl
 have lcs:b.cs.length=b.n:=rfl
 refine⟨_,rfl,_,_,rfl,rfl,⟨Dc,Dc,Dc⟩,_,_,rfl,rfl,⟨Dk,Dk⟩,?_⟩
 refine⟨by show 0<=sizeLine;decide,fun g2 fg2=>?_⟩
 have s4:=Qd fg2 (.lst [])
 have hg2:upd H3 g2 (.lst []) g2=some (.lst []):=Qc
 generalize upd H3 g2 (.lst [])=H4 at s4 hg2⊢
 let Pv29:Nat->St->Hp->Prop:=fun i σ H5=>∃(y:Int) (qs:List Int) (u:Option V),σ=[some (.ref a),some (.int (z0 % 8)),some (.ref t),some (Vp o),some (.int y),some (.ref g),some (.ref g2),u,none]/\H5 g2=some (.lst (qs.map V.int))/\qs.length=i/\(∀q∈qs,0<=q/\q<8)/\Same H3 H5
 refine⟨_,rfl,t,_,_,_,rfl,rfl,s4.tup ht,at0,l,_,rfl,.inl (s4.seq hl),_,_,rfl,rfl,_,rfl,Om,Om,Jk (lo:=0) (n:=_) Pv29 ⟨_,[],_,rfl,hg2,rfl,fun q hq=>(nomatch hq),s4⟩ ?_ ?_⟩
 .rintro i σ H5 hi ⟨y,qs,u,rfl,hq,lq,bq,s5⟩
  have y0:=jYc y (show(8:Int)≠0 by decide)
  have y1:=jYd y (show(0:Int)<8 by decide)
  have hi':i<(((us.length:Nat):Int)+1).toNat:=hi
  refine⟨_,rfl,.inl ⟨rfl,_,Qh hq⟩,_,rfl,_,_,rfl,rfl,(by show(0:Int)<_;decide +kernel),g2,_,_,rfl,rfl,hq,by rw[jQ];lia,?_⟩
  refine⟨_,rfl,_,_,rfl,rfl,⟨Dc,Dc⟩,_,qs++[y % 8],_,rfl,?_,?_,?_,fun b' o' e=>?_⟩
  .rw[yK];exact Qc
  .rw[kZ,lq];rfl
  .intro q hq'
   rcases zY.mp hq' with z | z
   .exact bq q z
   .rw[yW.mp z];exact⟨y0,y1⟩
  .rw[Qj (Qk e fg2)];exact s5 _ _ e
 .rintro σ H5 ⟨y,qs,u,rfl,hq,lq,bq,s5⟩
  have lq':qs.length=b.m+1:=by rw[lq,lu];lia
  obtain⟨q0,qs',rfl⟩:∃q0 qs',qs=q0::qs':=by
   cases qs with
   |nil=>cases lq'
   |cons q0 qs'=>exact⟨q0,qs',rfl⟩
  have lq2:qs'.length=b.m:=by rw[xQ]at lq';lia
  rw[yX]at hq
  refine⟨_,rfl,_,rfl,_,rfl,g2,_,_,_,rfl,rfl,Qh hq,(show atI (V.int q0::qs'.map V.int) 0=some (V.int q0)from at_hd),_,rfl,_,rfl,g2,_,rfl,Qh hq,fun g3 fg3=>?_⟩
  rw[Qsx]
  refine⟨by show 2<=sizeLine;decide,fun ct fct=>?_⟩
  have s6:=(Qd fg3 (.lst (qs'.map V.int))).trans (Qd fct (.tup [.int q0,.ref g3]))
  have hg3:SqL K (upd (upd H5 g3 (.lst (qs'.map V.int))) ct (.tup [.int q0,.ref g3])) g3 (qs'.map V.int):=(Qd fct (.tup [.int q0,.ref g3])).seq (Qh Qc)
  have hct:SqT K (upd (upd H5 g3 (.lst (qs'.map V.int))) ct (.tup [.int q0,.ref g3])) ct [.int q0,.ref g3]:=Qy Qc
  generalize upd (upd H5 g3 (.lst (qs'.map V.int))) ct (.tup [.int q0,.ref g3])=H6 at s6 hg3 hct⊢
  have s36:=s5.trans s6
  have hH3:HoldsAt K H3 g hs:=⟨ws,Qh hg,hpa⟩
  have hrl:∀r∈b.rs,r.1.length=b.cs.length:=fun r hr=>ok.ln r hr
  refine⟨_,rfl,t,ct,g3,g,b.rs,b.cs,o,q0,qs',hs,rfl,ProbAt.same s36 pt3,Om,Om,hct,hg3,hH3.same s36,hG,Om,lq2,fun q hq'=>?_,hrl,fun H7 s7=>?_⟩
  .have:0<=q/\q<8:=by
    rcases zY.mp hq' with z | z
    .exact bq q (yZ _ z)
    .rw[yW.mp z];exact bq _ (yV ..)
   lia
  refine⟨_,rfl,iteF ?_⟩
  have s37:=s36.trans s7
  refine⟨_,rfl,t,_,_,_,rfl,rfl,s37.tup ht,at0,_,rfl,t,_,_,_,rfl,rfl,s37.tup ht,at1,l,c,us,b,rfl,s37.seq hl,hrw.imp fun _ _ z=>z.same s37,s37.tup hc,ok,fun p0 ps x T mu w H8 s8 p1 p2 p3 hT hmu hw=>?_⟩
  have s38:=s37.trans s8
  refine⟨T,_,_,_,rfl,rfl,hT,at0,?_⟩
  refine⟨_,rfl,mu,_,_,_,rfl,rfl,hmu,at1,w,_,rfl,.inr hw,_,rfl,t,_,_,_,rfl,rfl,s38.tup ht,at0,l,_,rfl,.inl (s38.seq hl),rfl,false,?_,iteF ?_⟩
  .rw[jQ,p3,lu];exact congrArg (fun z=>V.bl (!z)) (kW rfl)
  refine⟨_,rfl,mu,_,_,_,rfl,rfl,hmu,at0,by show 1<=sizeLine;decide,fun T1 fT1=>?_⟩
  have s9:=Qd fT1 (.tup [.int p0])
  have hT1:SqT K (upd H8 T1 (.tup [.int p0])) T1 [.int p0]:=Qy Qc
  generalize upd H8 T1 (.tup [.int p0])=H9 at s9 hT1⊢
  have lps:(ps.map V.int).length=b.m:=by rw[jQ,p3]
  refine⟨_,rfl,mu,_,_,_,rfl,rfl,s9.tup hmu,at1,T1,w,_,_,rfl,rfl,hT1,s9.tup hw,by show 1+(ps.map V.int).length<=sizeLine;lia,fun T2 H10 s10 hT2=>⟨T2,rfl,⟨_,hT2⟩,fun D hD=>?_⟩⟩
  refine Zi (xs:=p0::ps) (val:=V.int) V.bl (fun _=>true) rfl (Ke hT2) (by rw[xQ];lia) hD (fun i hi H11 s11 P2 h2=>?_) fun H11 s11 h11=>?_
  .exact⟨_,rfl,i,rfl,h2 H11 (Same.refl _)⟩
  refine⟨D,_,rfl,Qh h11,true,by rw[Qsw],iteF ?_⟩
  have s811:=(s9.trans s10).trans s11
  refine⟨_,rfl,mu,_,_,_,rfl,rfl,s811.tup hmu,at0,by show 1<=sizeLine;decide,fun T3 fT3=>?_⟩
  have s12:=Qd fT3 (.tup [.int p0])
  have hT3:SqT K (upd H11 T3 (.tup [.int p0])) T3 [.int p0]:=Qy Qc
  generalize upd H11 T3 (.tup [.int p0])=H12 at s12 hT3⊢
  have s812:=s811.trans s12
  refine⟨_,rfl,mu,_,_,_,rfl,rfl,s812.tup hmu,at1,T3,w,_,_,rfl,rfl,hT3,s812.tup hw,by show 1+(ps.map V.int).length<=sizeLine;lia,fun T4 H13 s13' hT4=>⟨T4,p0::ps,rfl,hT4,List.cons_ne_nil _ _,fun mx mx1 mx2=>?_⟩⟩
  refine⟨_,_,rfl,rfl,⟨Dc,Dc,Dc⟩,_,_,rfl,rfl,_,rfl,ite2 (fun cc=>q _) (fun cc=>?_)⟩
  have hmx:mx<1000000000000000000:=by
   have:=of_decide_eq_false (Bool.eq_false_iff.mpr cc)
   exact Int.not_le.mp this
  have s813:=s812.trans s13'
  refine⟨_,rfl,mu,_,_,_,rfl,rfl,s813.tup hmu,at0,_,rfl,mu,_,_,_,rfl,rfl,s813.tup hmu,at1,w,_,rfl,.inr (s813.tup hw),fun g4 fg4=>?_⟩
  refine⟨by show 2<=sizeLine;decide,fun c4 fc4=>?_⟩
  have s14:=(Qd fg4 (.lst (ps.map V.int))).trans (Qd fc4 (.tup [.int p0,.ref g4]))
  have hg4:SqL K (upd (upd H13 g4 (.lst (ps.map V.int))) c4 (.tup [.int p0,.ref g4])) g4 (ps.map V.int):=(Qd fc4 (.tup [.int p0,.ref g4])).seq (Qh Qc)
  have hc4:SqT K (upd (upd H13 g4 (.lst (ps.map V.int))) c4 (.tup [.int p0,.ref g4])) c4 [.int p0,.ref g4]:=Qy Qc
  generalize upd (upd H13 g4 (.lst (ps.map V.int))) c4 (.tup [.int p0,.ref g4])=H14 at s14 hg4 hc4⊢
  have s3e:=(s38.trans s813).trans s14
  have hb:∀q∈ps++[p0],0<=q/\q<2 ^ 64:=fun q hq'=>by
   have h1:q<=mx:=mx2 q (by
    rcases zY.mp hq' with z | z
    .exact yZ _ z
    .rw[yW.mp z];exact yV ..)
   have h2:0<=q:=by
    rcases zY.mp hq' with z | z
    .exact p2 q z
    .rw[yW.mp z];exact p1
   lia
  have hlw:ws.length=hs.length:=by have:=hpa.length;rw[jQ]at this;exact this
  refine⟨_,rfl,_,rfl,_,rfl,_,rfl,_,rfl,g,_,rfl,.inl (s3e.seq (Qh hg)),_,_,rfl,rfl,⟨Dc,Dc⟩,_,rfl,g,_,rfl,s3e.seq (Qh hg),fun g5 fg5=>?_⟩
  have e5:((ws.length:Nat):Int) / 2=((ws.length / 2:Nat):Int):=Om
  rw[e5,cut_to Om]
  have s15:=Qd fg5 (.lst (ws.take (ws.length / 2)))
  have hg5:upd H14 g5 (.lst (ws.take (ws.length / 2))) g5=some (.lst (ws.take (ws.length / 2))):=Qc
  generalize upd H14 g5 (.lst (ws.take (ws.length / 2)))=H15 at s15 hg5⊢
  have s3f:=s3e.trans s15
  have h5:HoldsAt K H15 g5 (hs.take (ws.length / 2)):=⟨_,Qh hg5,by rw[List.map_take];exact(Vj (PairsAre.same s3f hpa) _).1⟩
  refine⟨t,c4,g4,g5,b.rs,b.cs,o,p0,ps,hs.take (ws.length / 2),rfl,ProbAt.same s3f pt3,Om,Om,s15.tup hc4,s15.seq hg4,h5,hG.take _,by rw[xJ];lia,p3,hb,hrl,fun H16 s16=>⟨_,rfl,iteT ?_⟩⟩
  refine⟨_,rfl,_,rfl,_,rfl,by show 0<=sizeLine;decide,fun g6 fg6=>?_⟩
  have s17:=Qd fg6 (.lst [])
  have hg6:upd H16 g6 (.lst []) g6=some (.lst []):=Qc
  generalize upd H16 g6 (.lst [])=H17 at s17 hg6⊢
  have s1517:=s16.trans s17
  exact⟨t,c4,g4,g6,b.rs,b.cs,o,p0,ps,[],rfl,ProbAt.same (s3f.trans s1517) pt3,Om,Om,(s15.trans s1517).tup hc4,(s15.trans s1517).seq hg4,⟨[],Qh hg6,.nil⟩,⟨jKd,fun p hp=>nomatch hp⟩,Dc,p3,hb,hrl,fun H18 _=>q _⟩
end
theorem na_all{K:Fg}{C:Addr}(h0:NoAttr K C "size")(h1:NoAttr K C "parts")(h2:NoAttr K C "leasts")(h3:NoAttr K C "weights")(h4:NoAttr K C "held")(h5:NoAttr K C "work")(h6:NoAttr K C "scale")(h7:NoAttr K C "outer")(h8:NoAttr K C "ones")(h9:NoAttr K C "inner")(h10:NoAttr K C "prices"):∀x∈tbN,NoAttr K C x:=fun x hx=>by
 simp only[tbN,kQ,jZb,or_false]at hx
 rcases hx with rfl | rfl | rfl | rfl | rfl | rfl | rfl | rfl | rfl | rfl | rfl
 .exact h0
 .exact h1
 .exact h2
 .exact h3
 .exact h4
 .exact h5
 .exact h6
 .exact h7
 .exact h8
 .exact h9
 .exact h10
def htop(i:Nat):Stmt:=PySem.Challenge.pw_nonebetter_k24_lines_of_bounds.main.body.getD i (.Pass ⟨0,0,0,0⟩)
abbrev fO(a b:Str)(s:Stmt)(k:Addr)(v:Value)(r:Addr):Obj:=.mk (.type "function") none (.func (.mk a b (L2.Xb s) (.stmts (L2.Xa s)) (L2.Qg s) k [] .none .none .none v none (.ref r) .none 0)) #[]
abbrev cO(a:Str)(i:Tok)(b:Str)(j k:Tok)(l m n o p:Int)(u r:Addr)(v1 v2 v3 v4:Value)(x y:Int)(z:Tok):Obj:=.mk (.type "code") none (.fields #[.str a i,.str b j,.str "/claim/cut.py" k,.int l 0,.int m 0,.int n 0,.int o 0,.int p 0,.ref u,.bool Bool.true,.int 181 0,.ref r,v1,v2,v3,v4,.int x 0,.int y 0,.str "/claim/cut.py" z]) #[]
abbrev tO(v:Array Value):Obj:=.mk (.type "tuple") none (.seq v) #[]
abbrev kO(P:Params)(x:Str)(i:Tok)(v:Value):DictEntry:=.mk (PyData.keyHash P x) (.str x i) v
def hob0(i:Nat)(P:Params):Obj :=
 bif Nat.beq i 3 then .mk (.type "dict") none (.dict #[kO P "__name__" 165 (.str "law_nonebetter_k24_lines_of_bounds" 640),kO P "__doc__" 166 .none,kO P "__package__" 167 .none,kO P "__loader__" 168 (.builtin "__main__.__loader__#opaque"),kO P "__spec__" 169 .none,kO P "__annotations__" 170 (.ref 6),kO P "__builtins__" 171 (.ref 4),kO P "__file__" 173 (.str "/claim/cut.py" 172),kO P "__cached__" 174 .none,kO P "_wall" 193 (.ref 21),kO P "better_row" 201 (.ref 26),kO P "rows_below" 209 (.ref 33),kO P "sum_row" 215 (.ref 38),kO P "Sheet" 263 (.ref 69),kO P "PlanError" 283 (.ref 83),kO P "NoNumber" 299 (.ref 96),kO P "divisor" 312 (.ref 105),kO P "ratio" 321 (.ref 112),kO P "parts_of" 329 (.ref 117),kO P "most_of" 342 (.ref 124),kO P "PATIENCE" 346 (.int 100 345),kO P "renewed" 352 (.ref 129),kO P "Tableau" 595 (.ref 294),kO P "settle" 611 (.ref 305),kO P "least_corner" 619 (.ref 312),kO P "lowest" 627 (.ref 317),kO P "corner" 633 (.ref 322),kO P "bound_lines" 639 (.ref 327),kO P "_law_whole" 648 (.ref 334),kO P "_law_cell_at" 656 (.ref 341),kO P "_law_mixed" 665 (.ref 348),kO P "_law_left" 677 (.ref 355),kO P "_law_row" 689 (.ref 362),kO P "_law_problem" 695 (.ref 367),kO P "_law_copy" 701 (.ref 372),kO P "_law_best" 709 (.ref 379),kO P "_law_holds" 719 (.ref 386),kO P "_law_led" 729 (.ref 393),kO P "_law_most" 735 (.ref 398),kO P "_law_shut" 741 (.ref 403),kO P "_law_summed" 747 (.ref 408),kO P "_law_counted" 756 (.ref 415),kO P "_law_are_parts" 765 (.ref 422),kO P "_law_are_holds" 771 (.ref 427),kO P "_law_one" 777 (.ref 432),kO P "_law_like" 783 (.ref 437),kO P "_law_either" 792 (.ref 444),kO P "_law_told_first" 798 (.ref 449),kO P "_law_told" 804 (.ref 454),kO P "_law_last" 816 (.ref 461),kO P "_law_emptied" 825 (.ref 468),kO P "_law_right" 831 (.ref 473),kO P "law" 837 (.ref 478)] 53) #[]else
 bif Nat.beq i 25 then cO "better_row" 196 "better_row" 197 198 5 2 0 0 3 22 23 .none .none .none (.ref 24) 199 5 200 else
 bif Nat.beq i 26 then fO "better_row" "better_row" (htop 2) 3 (.str "nonebetter.lines" 194) 25 else
 bif Nat.beq i 32 then cO "rows_below" 202 "rows_below" 203 204 7 2 0 0 3 27 28 .none (.ref 29) (.ref 30) (.ref 31) 207 7 208 else
 fO "rows_below" "rows_below" (htop 3) 3 (.str "nonebetter.lines" 194) 32
def hob1(i:Nat)(P:Params):Obj :=
 bif Nat.beq i 37 then cO "sum_row" 210 "sum_row" 211 212 11 2 0 0 3 34 35 .none .none .none (.ref 36) 213 11 214 else
 bif Nat.beq i 38 then fO "sum_row" "sum_row" (htop 4) 3 (.str "nonebetter.lines" 194) 37 else
 bif Nat.beq i 51 then cO "__init__" 228 "Sheet.__init__" 229 230 20 2 0 0 3 46 47 .none (.ref 48) (.ref 49) (.ref 50) 233 20 234 else
 bif Nat.beq i 52 then fO "__init__" "Sheet.__init__" (inClass (htop 5) 0) 3 (.str "nonebetter.lines" 194) 51 else
 cO "put" 236 "Sheet.put" 237 238 25 2 0 0 3 53 54 .none (.ref 55) (.ref 56) (.ref 57) 241 25 242
def hob2(i:Nat)(P:Params):Obj :=
 bif Nat.beq i 59 then fO "put" "Sheet.put" (inClass (htop 5) 1) 3 (.str "nonebetter.lines" 194) 58 else
 bif Nat.beq i 65 then cO "line_of" 244 "Sheet.line_of" 245 246 29 2 0 0 3 60 61 .none (.ref 62) (.ref 63) (.ref 64) 250 29 251 else
 bif Nat.beq i 66 then fO "line_of" "Sheet.line_of" (inClass (htop 5) 2) 3 (.str "nonebetter.lines" 194) 65 else
 bif Nat.beq i 68 then .mk (.type "dict") none (.dict #[kO P "__module__" 223 (.str "nonebetter.lines" 194),kO P "__firstlineno__" 227 (.int 18 226),kO P "__init__" 235 (.ref 52),kO P "put" 243 (.ref 59),kO P "line_of" 252 (.ref 66),kO P "__static_attributes__" 256 (.ref 67),kO P "__dict__" 258 (.ref 70),kO P "__weakref__" 260 (.ref 71),kO P "__doc__" 261 .none] 4) #[]else
 .mk (.type "type") none (.cls (ClassData.mk "Sheet" [.type "object"] [.ref 69,.type "object"] 68 "Sheet" Bool.true [] [] Bool.false none Bool.false)) #[none,none,Option.some (.str "Sheet" 216),Option.some (.str "Sheet" 224),Option.some (.builtin "object.__new__"),Option.some (.bool Bool.true)]
def hob3(i:Nat)(P:Params):Obj :=
 bif Nat.beq i 104 then cO "divisor" 302 "divisor" 303 304 40 2 0 0 3 99 100 .none (.ref 101) (.ref 102) (.ref 103) 310 40 311 else
 bif Nat.beq i 105 then fO "divisor" "divisor" (htop 10) 3 (.str "nonebetter.ratios" 300) 104 else
 bif Nat.beq i 111 then cO "ratio" 313 "ratio" 314 315 48 2 0 0 3 106 107 .none (.ref 108) (.ref 109) (.ref 110) 319 48 320 else
 bif Nat.beq i 112 then fO "ratio" "ratio" (htop 11) 3 (.str "nonebetter.ratios" 300) 111 else
 cO "parts_of" 324 "parts_of" 325 326 56 1 0 0 3 113 114 .none .none .none (.ref 115) 327 56 328
def hob4(i:Nat)(P:Params):Obj :=
 bif Nat.beq i 117 then fO "parts_of" "parts_of" (htop 13) 3 (.str "nonebetter.rows" 322) 116 else
 bif Nat.beq i 123 then cO "most_of" 330 "most_of" 331 332 58 2 0 0 3 118 119 .none (.ref 120) (.ref 121) (.ref 122) 340 58 341 else
 bif Nat.beq i 124 then fO "most_of" "most_of" (htop 14) 3 (.str "nonebetter.rows" 322) 123 else
 bif Nat.beq i 128 then cO "renewed" 347 "renewed" 348 349 68 4 0 0 3 125 126 .none .none .none (.ref 127) 350 68 351 else
 fO "renewed" "renewed" (htop 17) 3 (.str "nonebetter.tableau" 343) 128
def hob5(i:Nat)(P:Params):Obj :=
 bif Nat.beq i 140 then cO "__init__" 365 "Tableau.__init__" 366 367 81 3 0 0 3 137 138 .none .none .none (.ref 139) 368 81 369 else
 bif Nat.beq i 141 then fO "__init__" "Tableau.__init__" (inClass (htop 18) 0) 3 (.str "nonebetter.tableau" 343) 140 else
 bif Nat.beq i 145 then cO "add_row" 371 "Tableau.add_row" 372 373 97 2 0 0 3 142 143 .none .none .none (.ref 144) 374 97 375 else
 bif Nat.beq i 146 then fO "add_row" "Tableau.add_row" (inClass (htop 18) 1) 3 (.str "nonebetter.tableau" 343) 145 else
 cO "is_over" 393 "Tableau.is_over" 394 395 108 3 0 0 3 161 162 .none (.ref 163) (.ref 164) (.ref 165) 399 108 400
def hob6(i:Nat)(P:Params):Obj :=
 bif Nat.beq i 167 then fO "is_over" "Tableau.is_over" (inClass (htop 18) 4) 3 (.str "nonebetter.tableau" 343) 166 else
 bif Nat.beq i 171 then cO "first_line" 402 "Tableau.first_line" 403 404 113 2 0 0 3 168 169 .none .none .none (.ref 170) 405 113 406 else
 bif Nat.beq i 172 then fO "first_line" "Tableau.first_line" (inClass (htop 18) 5) 3 (.str "nonebetter.tableau" 343) 171 else
 bif Nat.beq i 178 then cO "worths" 408 "Tableau.worths" 409 410 116 1 0 0 3 173 174 .none (.ref 175) (.ref 176) (.ref 177) 416 116 417 else
 fO "worths" "Tableau.worths" (inClass (htop 18) 6) 3 (.str "nonebetter.tableau" 343) 178
def hob7(i:Nat)(P:Params):Obj :=
 bif Nat.beq i 183 then cO "lacks" 419 "Tableau.lacks" 420 421 125 1 0 0 3 180 181 .none .none .none (.ref 182) 422 125 423 else
 bif Nat.beq i 184 then fO "lacks" "Tableau.lacks" (inClass (htop 18) 7) 3 (.str "nonebetter.tableau" 343) 183 else
 bif Nat.beq i 190 then cO "end" 425 "Tableau.end" 426 427 132 3 0 0 3 185 186 .none (.ref 187) (.ref 188) (.ref 189) 431 132 432 else
 bif Nat.beq i 191 then fO "end" "Tableau.end" (inClass (htop 18) 8) 3 (.str "nonebetter.tableau" 343) 190 else
 cO "choice_lack" 434 "Tableau.choice_lack" 435 436 135 2 0 0 3 192 193 .none (.ref 194) (.ref 195) (.ref 196) 440 135 441
def hob8(i:Nat)(P:Params):Obj :=
 bif Nat.beq i 198 then fO "choice_lack" "Tableau.choice_lack" (inClass (htop 18) 9) 3 (.str "nonebetter.tableau" 343) 197 else
 bif Nat.beq i 202 then cO "row_lack" 443 "Tableau.row_lack" 444 445 139 3 0 0 3 199 200 .none .none .none (.ref 201) 446 139 447 else
 bif Nat.beq i 203 then fO "row_lack" "Tableau.row_lack" (inClass (htop 18) 10) 3 (.str "nonebetter.tableau" 343) 202 else
 bif Nat.beq i 209 then cO "furthest" 449 "Tableau.furthest" 450 451 142 2 0 0 3 204 205 .none (.ref 206) (.ref 207) (.ref 208) 459 142 460 else
 fO "furthest" "Tableau.furthest" (inClass (htop 18) 11) 3 (.str "nonebetter.tableau" 343) 209
def hob9(i:Nat)(P:Params):Obj :=
 bif Nat.beq i 214 then cO "weight" 462 "Tableau.weight" 463 464 152 2 0 0 3 211 212 .none .none .none (.ref 213) 465 152 466 else
 bif Nat.beq i 215 then fO "weight" "Tableau.weight" (inClass (htop 18) 12) 3 (.str "nonebetter.tableau" 343) 214 else
 bif Nat.beq i 221 then cO "side" 468 "Tableau.side" 469 470 157 2 0 0 3 216 217 .none (.ref 218) (.ref 219) (.ref 220) 473 157 474 else
 bif Nat.beq i 222 then fO "side" "Tableau.side" (inClass (htop 18) 13) 3 (.str "nonebetter.tableau" 343) 221 else
 cO "line_to" 476 "Tableau.line_to" 477 478 160 3 0 0 3 223 224 .none .none .none (.ref 225) 479 160 480
def hob10(i:Nat)(P:Params):Obj :=
 bif Nat.beq i 227 then fO "line_to" "Tableau.line_to" (inClass (htop 18) 14) 3 (.str "nonebetter.tableau" 343) 226 else
 bif Nat.beq i 233 then cO "helps" 482 "Tableau.helps" 483 484 179 4 0 0 3 228 229 .none (.ref 230) (.ref 231) (.ref 232) 489 179 490 else
 bif Nat.beq i 234 then fO "helps" "Tableau.helps" (inClass (htop 18) 15) 3 (.str "nonebetter.tableau" 343) 233 else
 bif Nat.beq i 240 then cO "nearer" 492 "Tableau.nearer" 493 494 186 4 0 0 3 235 236 .none (.ref 237) (.ref 238) (.ref 239) 502 186 503 else
 fO "nearer" "Tableau.nearer" (inClass (htop 18) 16) 3 (.str "nonebetter.tableau" 343) 240
def hob11(i:Nat)(P:Params):Obj :=
 bif Nat.beq i 247 then cO "nearest" 505 "Tableau.nearest" 506 507 194 3 0 0 3 242 243 .none (.ref 244) (.ref 245) (.ref 246) 513 194 514 else
 bif Nat.beq i 248 then fO "nearest" "Tableau.nearest" (inClass (htop 18) 17) 3 (.str "nonebetter.tableau" 343) 247 else
 bif Nat.beq i 252 then cO "flip" 516 "Tableau.flip" 517 518 201 3 0 0 3 249 250 .none .none .none (.ref 251) 519 201 520 else
 bif Nat.beq i 253 then fO "flip" "Tableau.flip" (inClass (htop 18) 18) 3 (.str "nonebetter.tableau" 343) 252 else
 cO "column_for" 522 "Tableau.column_for" 523 524 207 4 0 0 3 254 255 .none (.ref 256) (.ref 257) (.ref 258) 530 207 531
def hob12(i:Nat)(P:Params):Obj :=
 bif Nat.beq i 260 then fO "column_for" "Tableau.column_for" (inClass (htop 18) 19) 3 (.str "nonebetter.tableau" 343) 259 else
 bif Nat.beq i 266 then cO "is_too_little" 533 "Tableau.is_too_little" 534 535 214 3 0 0 3 261 262 .none (.ref 263) (.ref 264) (.ref 265) 539 214 540 else
 bif Nat.beq i 267 then fO "is_too_little" "Tableau.is_too_little" (inClass (htop 18) 20) 3 (.str "nonebetter.tableau" 343) 266 else
 bif Nat.beq i 271 then cO "is_idle" 542 "Tableau.is_idle" 543 544 217 2 0 0 3 268 269 .none .none .none (.ref 270) 545 217 546 else
 fO "is_idle" "Tableau.is_idle" (inClass (htop 18) 21) 3 (.str "nonebetter.tableau" 343) 271
def hob13(i:Nat)(P:Params):Obj :=
 bif Nat.beq i 276 then cO "exchange" 548 "Tableau.exchange" 549 550 220 5 0 0 3 273 274 .none .none .none (.ref 275) 551 220 552 else
 bif Nat.beq i 277 then fO "exchange" "Tableau.exchange" (inClass (htop 18) 22) 3 (.str "nonebetter.tableau" 343) 276 else
 bif Nat.beq i 283 then cO "times" 554 "Tableau.times" 555 556 240 3 0 0 3 278 279 .none (.ref 280) (.ref 281) (.ref 282) 563 240 564 else
 bif Nat.beq i 284 then fO "times" "Tableau.times" (inClass (htop 18) 23) 3 (.str "nonebetter.tableau" 343) 283 else
 cO "times_against" 566 "Tableau.times_against" 567 568 247 4 0 0 3 285 286 .none (.ref 287) (.ref 288) (.ref 289) 574 247 575
def hob14(i:Nat)(P:Params):Obj :=
 bif Nat.beq i 291 then fO "times_against" "Tableau.times_against" (inClass (htop 18) 24) 3 (.str "nonebetter.tableau" 343) 290 else
 bif Nat.beq i 293 then .mk (.type "dict") none (.dict #[kO P "__module__" 360 (.str "nonebetter.tableau" 343),kO P "__firstlineno__" 364 (.int 79 363),kO P "__init__" 370 (.ref 141),kO P "add_row" 376 (.ref 146),kO P "twin" 383 (.ref 153),kO P "hold" 392 (.ref 160),kO P "is_over" 401 (.ref 167),kO P "first_line" 407 (.ref 172),kO P "worths" 418 (.ref 179),kO P "lacks" 424 (.ref 184),kO P "end" 433 (.ref 191),kO P "choice_lack" 442 (.ref 198),kO P "row_lack" 448 (.ref 203),kO P "furthest" 461 (.ref 210),kO P "weight" 467 (.ref 215),kO P "side" 475 (.ref 222),kO P "line_to" 481 (.ref 227),kO P "helps" 491 (.ref 234),kO P "nearer" 504 (.ref 241),kO P "nearest" 515 (.ref 248),kO P "flip" 521 (.ref 253),kO P "column_for" 532 (.ref 260),kO P "is_too_little" 541 (.ref 267),kO P "is_idle" 547 (.ref 272),kO P "exchange" 553 (.ref 277),kO P "times" 565 (.ref 284),kO P "times_against" 576 (.ref 291),kO P "__static_attributes__" 588 (.ref 292),kO P "__dict__" 590 (.ref 295),kO P "__weakref__" 592 (.ref 296),kO P "__doc__" 593 .none] 4) #[]else
 bif Nat.beq i 294 then .mk (.type "type") none (.cls (ClassData.mk "Tableau" [.type "object"] [.ref 294,.type "object"] 293 "Tableau" Bool.true [] [] Bool.false none Bool.false)) #[none,none,Option.some (.str "Tableau" 353),Option.some (.str "Tableau" 361),Option.some (.builtin "object.__new__"),Option.some (.bool Bool.true)]else
 bif Nat.beq i 304 then cO "settle" 596 "settle" 597 598 252 3 0 0 3 299 300 .none (.ref 301) (.ref 302) (.ref 303) 609 252 610 else
 fO "settle" "settle" (htop 19) 3 (.str "nonebetter.tableau" 343) 304
def hob15(i:Nat)(P:Params):Obj :=
 bif Nat.beq i 311 then cO "least_corner" 612 "least_corner" 613 614 269 2 0 0 3 306 307 .none (.ref 308) (.ref 309) (.ref 310) 617 269 618 else
 bif Nat.beq i 312 then fO "least_corner" "least_corner" (htop 20) 3 (.str "nonebetter.tableau" 343) 311 else
 bif Nat.beq i 316 then cO "lowest" 622 "lowest" 623 624 272 2 0 0 3 313 314 .none .none .none (.ref 315) 625 272 626 else
 bif Nat.beq i 317 then fO "lowest" "lowest" (htop 22) 3 (.str "nonebetter.corners" 620) 316 else
 cO "corner" 628 "corner" 629 630 277 2 0 0 3 318 319 .none .none .none (.ref 320) 631 277 632
def hob16(i:Nat)(P:Params):Obj :=
 bif Nat.beq i 322 then fO "corner" "corner" (htop 23) 3 (.str "nonebetter.corners" 620) 321 else
 bif Nat.beq i 326 then cO "bound_lines" 634 "bound_lines" 635 636 285 4 0 0 3 323 324 .none .none .none (.ref 325) 637 285 638 else
 bif Nat.beq i 327 then fO "bound_lines" "bound_lines" (htop 24) 3 (.str "nonebetter.corners" 620) 326 else
 bif Nat.beq i 333 then cO "_law_whole" 642 "_law_whole" 643 644 298 1 0 0 3 328 329 .none (.ref 330) (.ref 331) (.ref 332) 646 298 647 else
 fO "_law_whole" "_law_whole" (htop 26) 3 (.str "law_nonebetter_k24_lines_of_bounds" 640) 333
def hob17(i:Nat)(P:Params):Obj :=
 bif Nat.beq i 340 then cO "_law_cell_at" 649 "_law_cell_at" 650 651 300 2 0 0 3 335 336 .none (.ref 337) (.ref 338) (.ref 339) 654 300 655 else
 bif Nat.beq i 341 then fO "_law_cell_at" "_law_cell_at" (htop 27) 3 (.str "law_nonebetter_k24_lines_of_bounds" 640) 340 else
 bif Nat.beq i 347 then cO "_law_mixed" 657 "_law_mixed" 658 659 304 2 0 0 3 342 343 .none (.ref 344) (.ref 345) (.ref 346) 663 304 664 else
 bif Nat.beq i 348 then fO "_law_mixed" "_law_mixed" (htop 28) 3 (.str "law_nonebetter_k24_lines_of_bounds" 640) 347 else
 cO "_law_left" 666 "_law_left" 667 668 308 3 0 0 3 349 350 .none (.ref 351) (.ref 352) (.ref 353) 675 308 676
def hob18(i:Nat)(P:Params):Obj :=
 bif Nat.beq i 355 then fO "_law_left" "_law_left" (htop 29) 3 (.str "law_nonebetter_k24_lines_of_bounds" 640) 354 else
 bif Nat.beq i 361 then cO "_law_row" 678 "_law_row" 679 680 318 3 0 0 3 356 357 .none (.ref 358) (.ref 359) (.ref 360) 687 318 688 else
 bif Nat.beq i 362 then fO "_law_row" "_law_row" (htop 30) 3 (.str "law_nonebetter_k24_lines_of_bounds" 640) 361 else
 bif Nat.beq i 366 then cO "_law_problem" 690 "_law_problem" 691 692 326 3 0 0 3 363 364 .none .none .none (.ref 365) 693 326 694 else
 fO "_law_problem" "_law_problem" (htop 31) 3 (.str "law_nonebetter_k24_lines_of_bounds" 640) 366
def hob19(i:Nat)(P:Params):Obj :=
 bif Nat.beq i 371 then cO "_law_copy" 696 "_law_copy" 697 698 330 1 0 0 3 368 369 .none .none .none (.ref 370) 699 330 700 else
 bif Nat.beq i 372 then fO "_law_copy" "_law_copy" (htop 32) 3 (.str "law_nonebetter_k24_lines_of_bounds" 640) 371 else
 bif Nat.beq i 378 then cO "_law_best" 702 "_law_best" 703 704 332 1 0 0 3 373 374 .none (.ref 375) (.ref 376) (.ref 377) 707 332 708 else
 bif Nat.beq i 379 then fO "_law_best" "_law_best" (htop 33) 3 (.str "law_nonebetter_k24_lines_of_bounds" 640) 378 else
 cO "_law_holds" 710 "_law_holds" 711 712 335 2 0 0 3 380 381 .none (.ref 382) (.ref 383) (.ref 384) 717 335 718
def hob20(i:Nat)(P:Params):Obj :=
 bif Nat.beq i 386 then fO "_law_holds" "_law_holds" (htop 34) 3 (.str "law_nonebetter_k24_lines_of_bounds" 640) 385 else
 bif Nat.beq i 397 then cO "_law_most" 730 "_law_most" 731 732 347 2 0 0 3 394 395 .none .none .none (.ref 396) 733 347 734 else
 bif Nat.beq i 398 then fO "_law_most" "_law_most" (htop 36) 3 (.str "law_nonebetter_k24_lines_of_bounds" 640) 397 else
 bif Nat.beq i 402 then cO "_law_shut" 736 "_law_shut" 737 738 352 2 0 0 3 399 400 .none .none .none (.ref 401) 739 352 740 else
 fO "_law_shut" "_law_shut" (htop 37) 3 (.str "law_nonebetter_k24_lines_of_bounds" 640) 402
def hob21(i:Nat)(P:Params):Obj :=
 bif Nat.beq i 407 then cO "_law_summed" 742 "_law_summed" 743 744 357 3 0 0 3 404 405 .none .none .none (.ref 406) 745 357 746 else
 bif Nat.beq i 408 then fO "_law_summed" "_law_summed" (htop 38) 3 (.str "law_nonebetter_k24_lines_of_bounds" 640) 407 else
 bif Nat.beq i 414 then cO "_law_counted" 748 "_law_counted" 749 750 364 3 0 0 3 409 410 .none (.ref 411) (.ref 412) (.ref 413) 754 364 755 else
 bif Nat.beq i 415 then fO "_law_counted" "_law_counted" (htop 39) 3 (.str "law_nonebetter_k24_lines_of_bounds" 640) 414 else
 cO "_law_are_parts" 757 "_law_are_parts" 758 759 366 2 0 0 3 416 417 .none (.ref 418) (.ref 419) (.ref 420) 763 366 764
def hob22(i:Nat)(P:Params):Obj :=
 bif Nat.beq i 422 then fO "_law_are_parts" "_law_are_parts" (htop 40) 3 (.str "law_nonebetter_k24_lines_of_bounds" 640) 421 else
 bif Nat.beq i 426 then cO "_law_are_holds" 766 "_law_are_holds" 767 768 375 2 0 0 3 423 424 .none .none .none (.ref 425) 769 375 770 else
 bif Nat.beq i 427 then fO "_law_are_holds" "_law_are_holds" (htop 41) 3 (.str "law_nonebetter_k24_lines_of_bounds" 640) 426 else
 bif Nat.beq i 431 then cO "_law_one" 772 "_law_one" 773 774 384 4 0 0 3 428 429 .none .none .none (.ref 430) 775 384 776 else
 fO "_law_one" "_law_one" (htop 42) 3 (.str "law_nonebetter_k24_lines_of_bounds" 640) 431
def hob23(i:Nat)(P:Params):Obj :=
 bif Nat.beq i 436 then cO "_law_like" 778 "_law_like" 779 780 386 2 0 0 3 433 434 .none .none .none (.ref 435) 781 386 782 else
 bif Nat.beq i 437 then fO "_law_like" "_law_like" (htop 43) 3 (.str "law_nonebetter_k24_lines_of_bounds" 640) 436 else
 bif Nat.beq i 443 then cO "_law_either" 784 "_law_either" 785 786 401 3 0 0 3 438 439 .none (.ref 440) (.ref 441) (.ref 442) 790 401 791 else
 bif Nat.beq i 444 then fO "_law_either" "_law_either" (htop 44) 3 (.str "law_nonebetter_k24_lines_of_bounds" 640) 443 else
 cO "_law_told_first" 793 "_law_told_first" 794 795 405 3 0 0 3 445 446 .none .none .none (.ref 447) 796 405 797
def hob24(i:Nat)(P:Params):Obj :=
 bif Nat.beq i 449 then fO "_law_told_first" "_law_told_first" (htop 45) 3 (.str "law_nonebetter_k24_lines_of_bounds" 640) 448 else
 bif Nat.beq i 453 then cO "_law_told" 799 "_law_told" 800 801 418 4 0 0 3 450 451 .none .none .none (.ref 452) 802 418 803 else
 bif Nat.beq i 454 then fO "_law_told" "_law_told" (htop 46) 3 (.str "law_nonebetter_k24_lines_of_bounds" 640) 453 else
 bif Nat.beq i 460 then cO "_law_last" 805 "_law_last" 806 807 437 3 0 0 3 455 456 .none (.ref 457) (.ref 458) (.ref 459) 814 437 815 else
 fO "_law_last" "_law_last" (htop 47) 3 (.str "law_nonebetter_k24_lines_of_bounds" 640) 460
def hob25(i:Nat)(P:Params):Obj :=
 bif Nat.beq i 467 then cO "_law_emptied" 817 "_law_emptied" 818 819 449 1 0 0 3 462 463 .none (.ref 464) (.ref 465) (.ref 466) 823 449 824 else
 bif Nat.beq i 468 then fO "_law_emptied" "_law_emptied" (htop 48) 3 (.str "law_nonebetter_k24_lines_of_bounds" 640) 467 else
 bif Nat.beq i 472 then cO "_law_right" 826 "_law_right" 827 828 455 4 0 0 3 469 470 .none .none .none (.ref 471) 829 455 830 else
 bif Nat.beq i 473 then fO "_law_right" "_law_right" (htop 49) 3 (.str "law_nonebetter_k24_lines_of_bounds" 640) 472 else
 cO "law" 832 "law" 833 834 474 1 0 0 3 474 475 .none .none .none (.ref 476) 835 474 836
def hob26(i:Nat)(P:Params):Obj :=
 fO "law" "law" (htop 50) 3 (.str "law_nonebetter_k24_lines_of_bounds" 640) 477
def hob(i:Nat)(P:Params):Obj:=(bif Nat.ble i 272 then(bif Nat.ble i 166 then(bif Nat.ble i 69 then(bif Nat.ble i 33 then hob0 i P else(bif Nat.ble i 58 then hob1 i P else hob2 i P))else(bif Nat.ble i 116 then hob3 i P else(bif Nat.ble i 129 then hob4 i P else hob5 i P)))else(bif Nat.ble i 210 then(bif Nat.ble i 179 then hob6 i P else(bif Nat.ble i 197 then hob7 i P else hob8 i P))else(bif Nat.ble i 241 then(bif Nat.ble i 226 then hob9 i P else hob10 i P)else(bif Nat.ble i 259 then hob11 i P else hob12 i P))))else(bif Nat.ble i 385 then(bif Nat.ble i 321 then(bif Nat.ble i 290 then hob13 i P else(bif Nat.ble i 305 then hob14 i P else hob15 i P))else(bif Nat.ble i 354 then(bif Nat.ble i 334 then hob16 i P else hob17 i P)else(bif Nat.ble i 367 then hob18 i P else hob19 i P)))else(bif Nat.ble i 432 then(bif Nat.ble i 403 then hob20 i P else(bif Nat.ble i 421 then hob21 i P else hob22 i P))else(bif Nat.ble i 461 then(bif Nat.ble i 448 then hob23 i P else hob24 i P)else(bif Nat.ble i 477 then hob25 i P else hob26 i P)))))
def heapK:Params->W.Frag:=fun P=>(nat_lit 3,hob (nat_lit 3) P)::(nat_lit 25,hob (nat_lit 25) P)::(nat_lit 26,hob (nat_lit 26) P)::(nat_lit 32,hob (nat_lit 32) P)::(nat_lit 33,hob (nat_lit 33) P)::(nat_lit 37,hob (nat_lit 37) P)::(nat_lit 38,hob (nat_lit 38) P)::(nat_lit 51,hob (nat_lit 51) P)::(nat_lit 52,hob (nat_lit 52) P)::(nat_lit 58,hob (nat_lit 58) P)::(nat_lit 59,hob (nat_lit 59) P)::(nat_lit 65,hob (nat_lit 65) P)::(nat_lit 66,hob (nat_lit 66) P)::(nat_lit 68,hob (nat_lit 68) P)::(nat_lit 69,hob (nat_lit 69) P)::(nat_lit 104,hob (nat_lit 104) P)::(nat_lit 105,hob (nat_lit 105) P)::(nat_lit 111,hob (nat_lit 111) P)::(nat_lit 112,hob (nat_lit 112) P)::(nat_lit 116,hob (nat_lit 116) P)::(nat_lit 117,hob (nat_lit 117) P)::(nat_lit 123,hob (nat_lit 123) P)::(nat_lit 124,hob (nat_lit 124) P)::(nat_lit 128,hob (nat_lit 128) P)::(nat_lit 129,hob (nat_lit 129) P)::(nat_lit 140,hob (nat_lit 140) P)::(nat_lit 141,hob (nat_lit 141) P)::(nat_lit 145,hob (nat_lit 145) P)::(nat_lit 146,hob (nat_lit 146) P)::(nat_lit 166,hob (nat_lit 166) P)::(nat_lit 167,hob (nat_lit 167) P)::(nat_lit 171,hob (nat_lit 171) P)::(nat_lit 172,hob (nat_lit 172) P)::(nat_lit 178,hob (nat_lit 178) P)::(nat_lit 179,hob (nat_lit 179) P)::(nat_lit 183,hob (nat_lit 183) P)::(nat_lit 184,hob (nat_lit 184) P)::(nat_lit 190,hob (nat_lit 190) P)::(nat_lit 191,hob (nat_lit 191) P)::(nat_lit 197,hob (nat_lit 197) P)::(nat_lit 198,hob (nat_lit 198) P)::(nat_lit 202,hob (nat_lit 202) P)::(nat_lit 203,hob (nat_lit 203) P)::(nat_lit 209,hob (nat_lit 209) P)::(nat_lit 210,hob (nat_lit 210) P)::(nat_lit 214,hob (nat_lit 214) P)::(nat_lit 215,hob (nat_lit 215) P)::(nat_lit 221,hob (nat_lit 221) P)::(nat_lit 222,hob (nat_lit 222) P)::(nat_lit 226,hob (nat_lit 226) P)::(nat_lit 227,hob (nat_lit 227) P)::(nat_lit 233,hob (nat_lit 233) P)::(nat_lit 234,hob (nat_lit 234) P)::(nat_lit 240,hob (nat_lit 240) P)::(nat_lit 241,hob (nat_lit 241) P)::(nat_lit 247,hob (nat_lit 247) P)::(nat_lit 248,hob (nat_lit 248) P)::(nat_lit 252,hob (nat_lit 252) P)::(nat_lit 253,hob (nat_lit 253) P)::(nat_lit 259,hob (nat_lit 259) P)::(nat_lit 260,hob (nat_lit 260) P)::(nat_lit 266,hob (nat_lit 266) P)::(nat_lit 267,hob (nat_lit 267) P)::(nat_lit 271,hob (nat_lit 271) P)::(nat_lit 272,hob (nat_lit 272) P)::(nat_lit 276,hob (nat_lit 276) P)::(nat_lit 277,hob (nat_lit 277) P)::(nat_lit 283,hob (nat_lit 283) P)::(nat_lit 284,hob (nat_lit 284) P)::(nat_lit 290,hob (nat_lit 290) P)::(nat_lit 291,hob (nat_lit 291) P)::(nat_lit 293,hob (nat_lit 293) P)::(nat_lit 294,hob (nat_lit 294) P)::(nat_lit 304,hob (nat_lit 304) P)::(nat_lit 305,hob (nat_lit 305) P)::(nat_lit 311,hob (nat_lit 311) P)::(nat_lit 312,hob (nat_lit 312) P)::(nat_lit 316,hob (nat_lit 316) P)::(nat_lit 317,hob (nat_lit 317) P)::(nat_lit 321,hob (nat_lit 321) P)::(nat_lit 322,hob (nat_lit 322) P)::(nat_lit 326,hob (nat_lit 326) P)::(nat_lit 327,hob (nat_lit 327) P)::(nat_lit 333,hob (nat_lit 333) P)::(nat_lit 334,hob (nat_lit 334) P)::(nat_lit 340,hob (nat_lit 340) P)::(nat_lit 341,hob (nat_lit 341) P)::(nat_lit 347,hob (nat_lit 347) P)::(nat_lit 348,hob (nat_lit 348) P)::(nat_lit 354,hob (nat_lit 354) P)::(nat_lit 355,hob (nat_lit 355) P)::(nat_lit 361,hob (nat_lit 361) P)::(nat_lit 362,hob (nat_lit 362) P)::(nat_lit 366,hob (nat_lit 366) P)::(nat_lit 367,hob (nat_lit 367) P)::(nat_lit 371,hob (nat_lit 371) P)::(nat_lit 372,hob (nat_lit 372) P)::(nat_lit 378,hob (nat_lit 378) P)::(nat_lit 379,hob (nat_lit 379) P)::(nat_lit 385,hob (nat_lit 385) P)::(nat_lit 386,hob (nat_lit 386) P)::(nat_lit 397,hob (nat_lit 397) P)::(nat_lit 398,hob (nat_lit 398) P)::(nat_lit 402,hob (nat_lit 402) P)::(nat_lit 403,hob (nat_lit 403) P)::(nat_lit 407,hob (nat_lit 407) P)::(nat_lit 408,hob (nat_lit 408) P)::(nat_lit 414,hob (nat_lit 414) P)::(nat_lit 415,hob (nat_lit 415) P)::(nat_lit 421,hob (nat_lit 421) P)::(nat_lit 422,hob (nat_lit 422) P)::(nat_lit 426,hob (nat_lit 426) P)::(nat_lit 427,hob (nat_lit 427) P)::(nat_lit 431,hob (nat_lit 431) P)::(nat_lit 432,hob (nat_lit 432) P)::(nat_lit 436,hob (nat_lit 436) P)::(nat_lit 437,hob (nat_lit 437) P)::(nat_lit 443,hob (nat_lit 443) P)::(nat_lit 444,hob (nat_lit 444) P)::(nat_lit 448,hob (nat_lit 448) P)::(nat_lit 449,hob (nat_lit 449) P)::(nat_lit 453,hob (nat_lit 453) P)::(nat_lit 454,hob (nat_lit 454) P)::(nat_lit 460,hob (nat_lit 460) P)::(nat_lit 461,hob (nat_lit 461) P)::(nat_lit 467,hob (nat_lit 467) P)::(nat_lit 468,hob (nat_lit 468) P)::(nat_lit 472,hob (nat_lit 472) P)::(nat_lit 473,hob (nat_lit 473) P)::(nat_lit 477,hob (nat_lit 477) P)::(nat_lit 478,hob (nat_lit 478) P)::[]
theorem all_ok{P:Program}{w:World}{K:Fg}{mg:Str->Option Value}{base:Heap}(M:Mg mg){CT fZinit fZadd_row fZis_over fZfirst_line fZworths fZlacks fZend fZchoice_lack fZrow_lack fZfurthest fZweight fZside fZline_to fZhelps fZnearer fZnearest fZflip fZcolumn_for fZis_too_little fZis_idle fZexchange fZtimes fZtimes_against:Addr}{fdZinit fdZadd_row fdZis_over fdZfirst_line fdZworths fdZlacks fdZend fdZchoice_lack fdZrow_lack fdZfurthest fdZweight fdZside fdZline_to fdZhelps fdZnearer fdZnearest fdZflip fdZcolumn_for fdZis_too_little fdZis_idle fdZexchange fdZtimes fdZtimes_against:FuncData}{tP:Tok}(hPa:mg "PATIENCE"=some (.int 100 tP))(T:TbTxt K mg CT)(mI:Mk K CT fZinit)(FZinit:Fun K "__init__" "Tableau.__init__" sIni fZinit fdZinit)(bZinit:Binds K fdZinit ["self","rows","costs"] [])(FZadd_row:Fun K "add_row" "Tableau.add_row" sAdd fZadd_row fdZadd_row)(bZadd_row:Binds K fdZadd_row ["self","row"] [])(mZadd_row:Meth K CT "add_row" fZadd_row)(FZis_over:Fun K "is_over" "Tableau.is_over" sOvr fZis_over fdZis_over)(bZis_over:Binds K fdZis_over ["self","limit","patience"] [])(mZis_over:Meth K CT "is_over" fZis_over)(FZfirst_line:Fun K "first_line" "Tableau.first_line" sFlL fZfirst_line fdZfirst_line)(bZfirst_line:Binds K fdZfirst_line ["self","numbers"] [])(mZfirst_line:Meth K CT "first_line" fZfirst_line)(FZworths:Fun K "worths" "Tableau.worths" sWor fZworths fdZworths)(bZworths:Binds K fdZworths ["self"] [])(mZworths:Meth K CT "worths" fZworths)(FZlacks:Fun K "lacks" "Tableau.lacks" sLcs fZlacks fdZlacks)(bZlacks:Binds K fdZlacks ["self"] [])(mZlacks:Meth K CT "lacks" fZlacks)(FZend:Fun K "end" "Tableau.end" sEnd fZend fdZend)(bZend:Binds K fdZend ["self","choice","side"] [])(mZend:Meth K CT "end" fZend)(FZchoice_lack:Fun K "choice_lack" "Tableau.choice_lack" sChL fZchoice_lack fdZchoice_lack)(bZchoice_lack:Binds K fdZchoice_lack ["self","choice"] [])(mZchoice_lack:Meth K CT "choice_lack" fZchoice_lack)(FZrow_lack:Fun K "row_lack" "Tableau.row_lack" sRwL fZrow_lack fdZrow_lack)(bZrow_lack:Binds K fdZrow_lack ["self","number","worths"] [])(mZrow_lack:Meth K CT "row_lack" fZrow_lack)(FZfurthest:Fun K "furthest" "Tableau.furthest" sFur fZfurthest fdZfurthest)(bZfurthest:Binds K fdZfurthest ["self","lacks"] [])(mZfurthest:Meth K CT "furthest" fZfurthest)(FZweight:Fun K "weight" "Tableau.weight" sWgt fZweight fdZweight)(bZweight:Binds K fdZweight ["self","thing"] [])(mZweight:Meth K CT "weight" fZweight)(FZside:Fun K "side" "Tableau.side" sSid fZside fdZside)(bZside:Binds K fdZside ["self","thing"] [])(mZside:Meth K CT "side" fZside)(FZline_to:Fun K "line_to" "Tableau.line_to" sLTo fZline_to fdZline_to)(bZline_to:Binds K fdZline_to ["self","thing","side"] [])(mZline_to:Meth K CT "line_to" fZline_to)(FZhelps:Fun K "helps" "Tableau.helps" sHlp fZhelps fdZhelps)(bZhelps:Binds K fdZhelps ["self","number","column","side"] [])(mZhelps:Meth K CT "helps" fZhelps)(FZnearer:Fun K "nearer" "Tableau.nearer" sNrr fZnearer fdZnearer)(bZnearer:Binds K fdZnearer ["self","line","column","other"] [])(mZnearer:Meth K CT "nearer" fZnearer)(FZnearest:Fun K "nearest" "Tableau.nearest" sNst fZnearest fdZnearest)(bZnearest:Binds K fdZnearest ["self","line","side"] [])(mZnearest:Meth K CT "nearest" fZnearest)(FZflip:Fun K "flip" "Tableau.flip" sFlp fZflip fdZflip)(bZflip:Binds K fdZflip ["self","column","lines"] [])(mZflip:Meth K CT "flip" fZflip)(FZcolumn_for:Fun K "column_for" "Tableau.column_for" sCoF fZcolumn_for fdZcolumn_for)(bZcolumn_for:Binds K fdZcolumn_for ["self","line","side","plain"] [])(mZcolumn_for:Meth K CT "column_for" fZcolumn_for)(FZis_too_little:Fun K "is_too_little" "Tableau.is_too_little" sTLi fZis_too_little fdZis_too_little)(bZis_too_little:Binds K fdZis_too_little ["self","line","column"] [])(mZis_too_little:Meth K CT "is_too_little" fZis_too_little)(FZis_idle:Fun K "is_idle" "Tableau.is_idle" sIdl fZis_idle fdZis_idle)(bZis_idle:Binds K fdZis_idle ["self","column"] [])(mZis_idle:Meth K CT "is_idle" fZis_idle)(FZexchange:Fun K "exchange" "Tableau.exchange" sExc fZexchange fdZexchange)(bZexchange:Binds K fdZexchange ["self","thing","line","column","side"] [])(mZexchange:Meth K CT "exchange" fZexchange)(FZtimes:Fun K "times" "Tableau.times" sTim fZtimes fdZtimes)(bZtimes:Binds K fdZtimes ["self","line","sign"] [])(mZtimes:Meth K CT "times" fZtimes)(FZtimes_against:Fun K "times_against" "Tableau.times_against" sTAg fZtimes_against fdZtimes_against)(bZtimes_against:Binds K fdZtimes_against ["self","thing","line","side"] [])(mZtimes_against:Meth K CT "times_against" fZtimes_against){C fI fP fL:Addr}{fdI fdP fdL:FuncData}(TS:ShTxt K mg C)(mkI:Mk K C fI)(FI:Fun K "__init__" "Sheet.__init__" Qah fI fdI)(bI:Binds K fdI ["self","rows"] [])(FP:Fun K "put" "Sheet.put" Qed fP fdP)(bP:Binds K fdP ["self","line"] [])(mP:Meth K C "put" fP)(FL:Fun K "line_of" "Sheet.line_of" Qai fL fdL)(bL:Binds K fdL ["self","number"] [])(mL:Meth K C "line_of" fL)(F1:Fn K mg "_law_cell_at" Qoi)(F2:Fn K mg "_law_best" Qov)(F3:Fn K mg "_law_holds" Qow)(F4:Fn K mg "_law_mixed" Qoj)(F5:Fn K mg "_law_left" Qok)(F6:Fn K mg "_law_row" Qgn)(F7:Fn K mg "_law_problem" Vd)(F8:Fn K mg "_law_copy" Qol)(F9:Fn K mg "_law_emptied" sEmp)(F10:Fn K mg "_law_whole" Qgm)(F11:Fn K mg "_law_counted" sCnt)(F12:Fn K mg "_law_are_holds" sHdl)(F13:Fn K mg "_law_are_parts" Qmg)(F14:Fn K mg "_law_either" Qoy)(F15:Fn K mg "_law_most" Qgs)(F16:Fn K mg "_law_shut" Qgr)(F17:Fn K mg "_law_summed" sSmd)(F18:Fn K mg "_law_like" Qox)(F19:Fn K mg "_law_one" sOne)(F20:Fn K mg "_law_told_first" Qmi)(F21:Fn K mg "_law_told" Qhr)(F22:Fn K mg "_law_last" Qmj)(F23:Fn K mg "most_of" Qlr)(F24:Fn K mg "better_row" Kg)(F25:Fn K mg "rows_below" Qgp)(F26:Fn K mg "sum_row" Vi)(F27:Fn K mg "bound_lines" sBdL)(F28:Fn K mg "_law_right" sRgt)(F29:Fn K mg "parts_of" sPts)(F30:Fn K mg "renewed" sRnw)(F31:Fn K mg "settle" sSet)(F32:Fn K mg "least_corner" sLcr)(F33:Fn K mg "divisor" Wc)(F34:Fn K mg "lowest" Qog)(F35:Fn K mg "ratio" Qgk)(F36:Fn K mg "corner" sCor){f:Addr}{fd:FuncData}(F37:Fun K "law" "law" sLaw f fd):FnOk P w K mg base CX0 7 f fd ["_law_script"] (Qno K):=by
 have h_cl_cell_at:=okCell (P:=P) (w:=w) (base:=base) F1 M
 have h_cl_best:=okBest (P:=P) (w:=w) (base:=base) F2 M h_cl_cell_at
 have h_cl_holds:=okHlds (P:=P) (w:=w) (base:=base) F3 M
 have h_cl_mixed:=okMix2 (P:=P) (w:=w) (base:=base) F4 M
 have h_cl_left:=okLeft (P:=P) (w:=w) (base:=base) F5 M h_cl_cell_at h_cl_mixed
 have h_cl_row:=Qsm (P:=P) (w:=w) (base:=base) F6 M
 have h_cl_problem:=Qlq (P:=P) (w:=w) (base:=base) F7 M h_cl_cell_at h_cl_row h_cl_left
 have h_cl_copy:=Qsv (P:=P) (w:=w) (base:=base) F8 M
 have h_cl_emptied:=okEmp (P:=P) (w:=w) (base:=base) F9 M
 have h_cl_whole:=Qsl (P:=P) (w:=w) (base:=base) F10 M
 have h_cl_counted:=okCnt (P:=P) (w:=w) (base:=base) F11 M h_cl_whole
 have h_cl_are_holds:=okHdl (P:=P) (w:=w) (base:=base) F12 M h_cl_counted
 have h_cl_are_parts:=okPrts (P:=P) (w:=w) (base:=base) F13 M h_cl_counted h_cl_whole
 have h_cl_either:=okEith (P:=P) (w:=w) (base:=base) F14 M
 have h_cl_most:=Qss (P:=P) (w:=w) (base:=base) F15 M
 have h_cl_shut:=Qsr (P:=P) (w:=w) (base:=base) F16 M
 have h_cl_summed:=okSmd (P:=P) (w:=w) (base:=base) F17 M
 have h_cl_like:=okLike (P:=P) (w:=w) (base:=base) F18 M
 have h_cl_one:=okOne (P:=P) (w:=w) (base:=base) F19 M
 have h_cl_told_first:=okTFst (P:=P) (w:=w) (base:=base) F20 M h_cl_like h_cl_counted h_cl_one
 have h_cl_told:=okTldL (P:=P) (w:=w) (base:=base) F21 M h_cl_are_parts h_cl_summed h_cl_counted h_cl_told_first h_cl_whole h_cl_are_holds h_cl_most h_cl_shut h_cl_either
 have h_cl_last:=okLast (P:=P) (w:=w) (base:=base) F22 M h_cl_told
 have h_c_most_of:=okMost (P:=P) (w:=w) (base:=base) F23 M
 have h_c_better_row:=Qfj (P:=P) (w:=w) (base:=base) F24 M
 have h_c_rows_below:=Qsp (P:=P) (w:=w) (base:=base) F25 M h_c_better_row
 have h_c_sum_row:=Qop (P:=P) (w:=w) (base:=base) F26 M
 have h_c_bound_lines:=okBdL (P:=P) (w:=w) (base:=base) TS mkI (okShI FI TS) bI (okShP FP M TS) bP mP (okShL FL M TS (okShP FP M TS) bP mP) bL mL F27 M h_c_rows_below h_c_sum_row h_c_most_of
 have h_cl_right:=okRgt (P:=P) (w:=w) (base:=base) F28 M h_cl_summed h_cl_copy h_c_bound_lines h_cl_most h_cl_last h_cl_shut h_cl_emptied
 have h_c_parts_of:=okPts (P:=P) (w:=w) (base:=base) F29 M
 have h_c_renewed:=okRnw (P:=P) (w:=w) (base:=base) F30 M
 have h_c_settle:=(have G_worths:=okWor (P:=P) (w:=w) (base:=base) FZworths M T;have G_end:=okEnd (P:=P) (w:=w) (base:=base) FZend M T;have G_choice_lack:=okChL (P:=P) (w:=w) (base:=base) FZchoice_lack M T G_end bZend mZend;have G_row_lack:=okRwL (P:=P) (w:=w) (base:=base) FZrow_lack M T;have G_lacks:=okLcs (P:=P) (w:=w) (base:=base) FZlacks M T G_worths bZworths mZworths G_choice_lack bZchoice_lack mZchoice_lack G_row_lack bZrow_lack mZrow_lack;have G_is_over:=okOvr (P:=P) (w:=w) (base:=base) FZis_over M T;have G_times:=okTim (P:=P) (w:=w) (base:=base) FZtimes M T;have G_weight:=okWgt (P:=P) (w:=w) (base:=base) FZweight M T;have G_furthest:=okFur (P:=P) (w:=w) (base:=base) FZfurthest M T G_weight bZweight mZweight;have G_side:=okSid (P:=P) (w:=w) (base:=base) FZside M T G_end bZend mZend;have G_line_to:=okLTo (P:=P) (w:=w) (base:=base) FZline_to M T G_end bZend mZend;have G_helps:=okHlp (P:=P) (w:=w) (base:=base) FZhelps M T;have G_nearer:=okNrr (P:=P) (w:=w) (base:=base) FZnearer M T;have G_nearest:=okNst (P:=P) (w:=w) (base:=base) FZnearest M T G_helps bZhelps mZhelps G_nearer bZnearer mZnearer;have G_is_too_little:=okTLi (P:=P) (w:=w) (base:=base) FZis_too_little M T;have G_flip:=okFlp (P:=P) (w:=w) (base:=base) FZflip M T;have G_column_for:=okCoF (P:=P) (w:=w) (base:=base) FZcolumn_for M T G_nearest bZnearest mZnearest G_is_too_little bZis_too_little mZis_too_little G_flip bZflip mZflip;have G_times_against:=okTAg (P:=P) (w:=w) (base:=base) FZtimes_against M T G_times bZtimes mZtimes;have G_is_idle:=okIdl (P:=P) (w:=w) (base:=base) FZis_idle M T;have G_exchange:=okExc (P:=P) (w:=w) (base:=base) FZexchange M T G_end bZend mZend h_c_renewed;okSet (P:=P) (w:=w) (base:=base) hPa T F31 M G_lacks bZlacks mZlacks G_is_over bZis_over mZis_over G_times bZtimes mZtimes G_worths bZworths mZworths G_furthest bZfurthest mZfurthest G_side bZside mZside G_line_to bZline_to mZline_to G_column_for bZcolumn_for mZcolumn_for G_times_against bZtimes_against mZtimes_against G_is_idle bZis_idle mZis_idle G_exchange bZexchange mZexchange)
 have h_c_least_corner:=(have G_add_row:=okAdd (P:=P) (w:=w) (base:=base) FZadd_row M T h_c_parts_of;have G_flT:=okFlT (P:=P) (w:=w) (base:=base) FZfirst_line M T;have G_flL:=okFlL (P:=P) (w:=w) (base:=base) FZfirst_line M T;have G_init:=okIni (P:=P) (w:=w) (base:=base) FZinit M T G_add_row bZadd_row mZadd_row G_flT G_flL bZfirst_line mZfirst_line;okLcr (P:=P) (w:=w) (base:=base) T mI G_init bZinit F32 M h_c_settle)
 have h_c_divisor:=Qln (P:=P) (w:=w) (base:=base) F33 M
 have h_c_lowest:=okLow1 (P:=P) (w:=w) (base:=base) F34 M h_c_divisor
 have h_c_ratio:=Qsj (P:=P) (w:=w) (base:=base) F35 M h_c_divisor
 have h_c_corner:=okCor (P:=P) (w:=w) (base:=base) F36 M h_c_least_corner h_c_lowest h_c_ratio
 have h_c_law:=okLaw (P:=P) (w:=w) (base:=base) F37 M h_cl_cell_at h_cl_problem h_cl_best h_cl_holds h_cl_right h_c_corner h_cl_whole
 exact h_c_law
theorem walk{l:PySem.W.OpenLaw}{q:Program}{loose:List Str}{XP:(Str->Option Value)->Heap->Prop}{YP:World->Heap->Prop}{d:DefRec}{K:Params->Fg}(hn:l.most=some 63)(hdf:d.params.defaults=[])
  (hY:∀(w:World) (h:Heap),YP w h->(K w.params).In h)
  (F:∀(w:World) (mg:Str->Option Value) (fa:Addr) (h:Heap),(K w.params).In h->h.Ns mainGlobals mg->mg d.name=some (.ref fa) ->
   ∃fd:FuncData,(∀(s:Shared) (u:Value),BindsTo s fd ⟨[u],[]⟩ [("_law_script",u)])/\∀base:Heap,(K w.params).In base->base.Ns mainGlobals mg->FnOk l.prog w (K w.params) mg base CX0 7 fa fd ["_law_script"] (Qno (K w.params))) :
  PySem.W.WalkO q loose XP YP l.row.toRowW d [] (fun f vs=>PySem.call f vs) :=
 L2.Qjo (n:=63) (k:=7) (x:="_law_script") (CX:=fun _=>CX0) (sp:=fun w=>Qno (K w.params)) hn Dc hdf ⟨rfl,Dc,Dc⟩ hY F (fun _ _ a ns hl hb hS=>⟨a,ns,rfl,hS,hl,fun _=>rfl⟩) fun _ _ _ _ _ z=>z
end Nb
def Nb.pwv:PySem.Program:={ PySem.Challenge.pw_nonebetter_k24_lines_of_bounds with main:={ PySem.Challenge.pw_nonebetter_k24_lines_of_bounds.main with body:=[Nb.htop 0,Nb.htop 1,Nb.htop 2,Nb.htop 3,Nb.htop 4,Nb.htop 5,Nb.htop 6,Nb.htop 7,Nb.htop 8,Nb.htop 9,Nb.htop 10,Nb.htop 11,Nb.htop 12,Nb.htop 13,Nb.htop 14,Nb.htop 15,Nb.htop 16,Nb.htop 17,Nb.htop 18,Nb.htop 19,Nb.htop 20,Nb.htop 21,Nb.htop 22,Nb.htop 23,Nb.htop 24,Nb.htop 25,Nb.htop 26,Nb.htop 27,Nb.htop 28,Nb.htop 29,Nb.htop 30,Nb.htop 31,Nb.htop 32,Nb.htop 33,Nb.htop 34,Nb.htop 35,Nb.htop 36,Nb.htop 37,Nb.htop 38,Nb.htop 39,Nb.htop 40,Nb.htop 41,Nb.htop 42,Nb.htop 43,Nb.htop 44,Nb.htop 45,Nb.htop 46,Nb.htop 47,Nb.htop 48,Nb.htop 49,Nb.htop 50] } }
def PySem.W.Fast.tw1653918685017820470:Nat->PySem.Params->PySem.Obj:=Nb.hob
theorem PySem.W.Fast.te1653918685017820470:Nb.hob=PySem.W.Fast.tw1653918685017820470:=rfl
def PySem.W.Fast.tw7794822364125706843:PySem.Program:=PySem.Challenge.pw_nonebetter_k24_lines_of_bounds
theorem PySem.W.Fast.te7794822364125706843:PySem.Challenge.pw_nonebetter_k24_lines_of_bounds=PySem.W.Fast.tw7794822364125706843:=rfl
def PySem.W.Fast.tw9401860820342270615:PySem.Program:=Nb.pwv
theorem PySem.W.Fast.te9401860820342270615:Nb.pwv=PySem.W.Fast.tw9401860820342270615:=rfl
def PySem.W.Fast.tw11570947652754012800:Nat->PySem.Stmt:=Nb.htop
theorem PySem.W.Fast.te11570947652754012800:Nb.htop=PySem.W.Fast.tw11570947652754012800:=rfl
namespace PySem.W.Fast
def tw12417027559119801444:=0
def tw10154932395297575598:=0
def tw608760363883412814:=0
def tw3986587789189490138:=0
def tw9867757696622555115:=0
def tw11188533740474866295:=0
def tw1682473676602543733:=0
def tw2024934130253208743:=0
def tw10441890585282021586:=0
def tw8275147473715482704:=0
def tw18427727714061201608:=0
def tw8702311629748360622:=0
def tw6275038044592578580:=0
def tw9975607824513285864:=0
def tw11337479464168464522:=0
def tw8243371409570604057:=0
def tw5355731655915457387:=0
def tw7329348189633844510:=0
def tw4645633284178249326:=0
def tw7111147270664131121:=0
def tw845141895876536486:=0
def tw11185413467169395627:=0
def tw17905112074118043604:=0
def tw12521136191338852036:=0
def tw1722566746332225691:=0
def tw17156183024833293056:=0
def tw11959375651539352954:=0
def tw2183207729950825765:=0
def tw11650381549454049976:=0
def tw10930559903881515526:=0
def tw5714134309167410354:=0
def tw12664518074194553466:=0
def tw817695382352600870:=0
def tw8750057290557943021:=0
def tw18209995871905192503:=0
def tw8752960280468790273:=0
def tw9202959358231350182:=0
def tw2386605577821707223:=0
def tw16837752997244138958:=0
def tw14347742286201031493:=0
def tw7859237238093898428:=0
def tw4023466400404427923:=0
def tw6511626885829737109:=0
def tw2274681988390421547:=0
def tw10231288170800512033:=0
def tw746432566491214286:=0
def tw13034167383477042747:=0
def tw8897110939004877867:=0
def tw15810028001071360157:=0
def tw7415633507332991859:=0
def tw17041974335876346051:=0
def tw4121771721618179041:=0
def tw7661483587241212730:=0
def tw749235801970702553:=0
def tw14770221673895280295:=0
def tw3214245354468219361:=0
def tw13036129595900391788:=0
def tw6178206993153462714:=0
def tw14891007280190418844:=0
def tw8418269453478590904:=0
def tw85950794696845277:=0
def tw17867575691465334456:=0
def tw16212677035262943826:=0
def tw17207608955426649684:=0
def tw17202398522235863721:=0
def tw17256623498855490844:=0
def tw1489615019285361959:=0
def tw16721740493434122686:=0
def tw4492400682123803910:=0
def tw11579532510365110430:=0
def tw7245936857809117445:=0
def tw10111404017294875401:=0
def tw16923169555254422760:=0
def tw4999429769752232909:=0
def tw7254761033855093652:=0
def tw14656728468355390816:=0
def tw5550707619785134326:=0
def tw4280204164240583951:=0
def tw645943632163892602:=0
def tw17741292313894488609:=0
def tw16490096975988801925:=0
def tw8579910406940381703:=0
def tw551973301829219048:=0
def tw14703222486771679975:=0
def tw875992159066558763:=0
def tw8824890028347193758:=0
def tw17876554816304847672:=0
def tw16671756752481508471:=0
def tw1471481083645904945:=0
def tw17586705281949017664:=0
def tw4957155190809775136:=0
def tw12579721084565735633:=0
def tw10595012328906982143:=0
def tw4039526429035984944:=0
def tw2119201564057832787:=0
def tw3785658150625954196:=0
def tw16728824404816428678:=0
def tw333590612822483793:=0
def tw253849385063804984:=0
def tw5382133252862740812:=0
def tw449497340167039806:=0
def tw9669863958940577576:=0
def tw14315773114882364643:=0
def tw18291037453744880838:=0
def tw1677443082511987649:=0
def tw190807000303421952:=0
def tw4515224832119544786:=0
def tw2275359975669148156:=0
def tw16976027253110487124:=0
def tw10133985831232325611:=0
def tw6054707544922916857:=0
def tw517366616302410898:=0
def tw1713263719107176098:=0
def tw11926827494513928974:=0
def tw5659896027317004394:=0
def tw1158896069326972028:=0
def tw8360497328945144104:=0
def tw6196798635683700404:=0
def tw1287700904609567004:=0
def tw13450470668926531907:=0
def tw8785653514626155608:=0
def tw15796061526055608905:=0
def tw6282777850985136835:=0
def tw279064494595173053:=0
def tw5473110670051673765:=0
def tw15469978462119831670:=0
def tw9279760617198198619:=0
def tw1923124109061305200:=0
def tw4035749593718642910:=0
def tw38730248451665448:=0
def tw3787477677194992670:=0
def tw7292092999381646330:=0
def tw505771013411930693:=0
def tw15329046822264111704:=0
def tw44537052973090978:=0
def tw12656026967098086173:=0
def tw17591416301081607957:=0
def tw9372748204176949774:=0
def tw3056103702860369397:=0
def tw14877774599294902093:=0
def tw15770018462643467764:=0
def tw3380027004255285372:=0
def tw18175737480682589601:=0
def tw1080312386799289042:=0
def tw16398711733394681630:=0
def tw6656647148814145478:=0
def tw7605508201057510081:=0
def tw9066655913768141234:=0
def tw7489541045673822892:=0
def tw2375807557127716699:=0
def tw13198571659657079456:=0
def tw463699626913006376:=0
def tw8806535697215563431:=0
def tw12579056346268386201:=0
def tw1054176257536527573:=0
def tw4232090379621040176:=0
def tw117000818385936056:=0
def tw17191526170052027936:=0
def tw1548333081220682390:=0
def tw13393152419622491260:=0
def tw2686305535710612069:=0
def tw13435336374797894569:=0
def tw5469049321766103672:=0
def tw1002436617432554799:=0
def tw13363118155025495303:=0
def tw14581158930980399138:=0
def tw11947986851425729758:=0
def tw17784241050043569718:=0
def tw8730920775712236448:=0
def tw18239860567423672527:=0
def tw4694905177407168308:=0
def tw7493608332480084010:=0
def tw38063405623833131:=0
def tw1183406630892937568:=0
def tw11425552043823159669:=0
def tw485665066035940797:=0
def tw8525434153638385049:=0
def tw14188445205591264831:=0
def tw14892946927296614087:=0
def tw4940832108259025027:=0
def tw895436719839716700:=0
def tw10209021402679943691:=0
def tw18102150450479486271:=0
def tw982782422607332810:=0
def tw3964260769062940897:=0
def tw7387388847356561771:=0
def tw17539370233536106774:=0
def tw4755727028481369609:=0
def tw1543169445006400526:=0
def tw14126550454489804205:=0
def tw7120129827154291310:=0
def tw17341983111361165529:=0
def tw6819805404124187977:=0
def tw12931478774116258482:=0
def tw15931790913645002701:=0
def tw17053016020814073221:=0
def tw11816424812104216735:=0
def tw422167499281196655:=0
def tw141950507161686511:=0
def tw4383605713268830767:=0
def tw12700163402989105017:=0
def tw5348304273881362595:=0
def tw16149038651611138086:=0
def tw3617382339492869746:=0
def tw11029735295314155423:=0
def tw17934259847540729511:=0
def tw3177101544379215229:=0
def tw14421332031724853380:=0
def tw9954765278439105977:=0
end PySem.W.Fast
open PySem PySem.W PyProof.Rows
set_option maxRecDepth 100000 in
set_option maxHeartbeats 0 in
theorem PySem.Challenge.cw_nonebetter_k24_lines_of_bounds_holds : PySem.Challenge.rw_nonebetter_k24_lines_of_bounds.Holds := by
 w_on;o_law;show PySem.W.OpenRow.Holds { PySem.Challenge.rw_nonebetter_k24_lines_of_bounds.row with prog:=Nb.pwv };o_head (PySem.W.kHook Nb.heapK (nat_lit 3::nat_lit 25::nat_lit 26::nat_lit 32::nat_lit 33::nat_lit 37::nat_lit 38::nat_lit 51::nat_lit 52::nat_lit 58::nat_lit 59::nat_lit 65::nat_lit 66::nat_lit 68::nat_lit 69::nat_lit 104::nat_lit 105::nat_lit 111::nat_lit 112::nat_lit 116::nat_lit 117::nat_lit 123::nat_lit 124::nat_lit 128::nat_lit 129::nat_lit 140::nat_lit 141::nat_lit 145::nat_lit 146::nat_lit 166::nat_lit 167::nat_lit 171::nat_lit 172::nat_lit 178::nat_lit 179::nat_lit 183::nat_lit 184::nat_lit 190::nat_lit 191::nat_lit 197::nat_lit 198::nat_lit 202::nat_lit 203::nat_lit 209::nat_lit 210::nat_lit 214::nat_lit 215::nat_lit 221::nat_lit 222::nat_lit 226::nat_lit 227::nat_lit 233::nat_lit 234::nat_lit 240::nat_lit 241::nat_lit 247::nat_lit 248::nat_lit 252::nat_lit 253::nat_lit 259::nat_lit 260::nat_lit 266::nat_lit 267::nat_lit 271::nat_lit 272::nat_lit 276::nat_lit 277::nat_lit 283::nat_lit 284::nat_lit 290::nat_lit 291::nat_lit 293::nat_lit 294::nat_lit 304::nat_lit 305::nat_lit 311::nat_lit 312::nat_lit 316::nat_lit 317::nat_lit 321::nat_lit 322::nat_lit 326::nat_lit 327::nat_lit 333::nat_lit 334::nat_lit 340::nat_lit 341::nat_lit 347::nat_lit 348::nat_lit 354::nat_lit 355::nat_lit 361::nat_lit 362::nat_lit 366::nat_lit 367::nat_lit 371::nat_lit 372::nat_lit 378::nat_lit 379::nat_lit 385::nat_lit 386::nat_lit 397::nat_lit 398::nat_lit 402::nat_lit 403::nat_lit 407::nat_lit 408::nat_lit 414::nat_lit 415::nat_lit 421::nat_lit 422::nat_lit 426::nat_lit 427::nat_lit 431::nat_lit 432::nat_lit 436::nat_lit 437::nat_lit 443::nat_lit 444::nat_lit 448::nat_lit 449::nat_lit 453::nat_lit 454::nat_lit 460::nat_lit 461::nat_lit 467::nat_lit 468::nat_lit 472::nat_lit 473::nat_lit 477::nat_lit 478::[]) (fun _=>by kernel_rfl));(case hw=>w_witness2)
 k_fill
 refine Nb.walk (l:=PySem.Challenge.rw_nonebetter_k24_lines_of_bounds) rfl rfl (fun w h Y=>PySem.W.kIn_of Y) ?F
 case F=>
  intro w mg fa h KX G hmg
  have⟨F1,F2,F3,F4,F5,F6,F7,F8,F9,F10,F11,F12,F13,F14,F15,F16,F17,F18,F19,F20,F21,F22,F23,F24,F25,F26,F27,F28,F29,F30,F31,F32,F33,F34,F35,F36,F37⟩:L2.Fn (L2.KOf KX) mg "_law_cell_at" Nb.Qoi/\L2.Fn (L2.KOf KX) mg "_law_best" Nb.Qov/\L2.Fn (L2.KOf KX) mg "_law_holds" Nb.Qow/\L2.Fn (L2.KOf KX) mg "_law_mixed" Nb.Qoj/\L2.Fn (L2.KOf KX) mg "_law_left" Nb.Qok/\L2.Fn (L2.KOf KX) mg "_law_row" Nb.Qgn/\L2.Fn (L2.KOf KX) mg "_law_problem" Nb.Vd/\L2.Fn (L2.KOf KX) mg "_law_copy" Nb.Qol/\L2.Fn (L2.KOf KX) mg "_law_emptied" Nb.sEmp/\L2.Fn (L2.KOf KX) mg "_law_whole" Nb.Qgm/\L2.Fn (L2.KOf KX) mg "_law_counted" Nb.sCnt/\L2.Fn (L2.KOf KX) mg "_law_are_holds" Nb.sHdl/\L2.Fn (L2.KOf KX) mg "_law_are_parts" Nb.Qmg/\L2.Fn (L2.KOf KX) mg "_law_either" Nb.Qoy/\L2.Fn (L2.KOf KX) mg "_law_most" Nb.Qgs/\L2.Fn (L2.KOf KX) mg "_law_shut" Nb.Qgr/\L2.Fn (L2.KOf KX) mg "_law_summed" Nb.sSmd/\L2.Fn (L2.KOf KX) mg "_law_like" Nb.Qox/\L2.Fn (L2.KOf KX) mg "_law_one" Nb.sOne/\L2.Fn (L2.KOf KX) mg "_law_told_first" Nb.Qmi/\L2.Fn (L2.KOf KX) mg "_law_told" Nb.Qhr/\L2.Fn (L2.KOf KX) mg "_law_last" Nb.Qmj/\L2.Fn (L2.KOf KX) mg "most_of" Nb.Qlr/\L2.Fn (L2.KOf KX) mg "better_row" Nb.Kg/\L2.Fn (L2.KOf KX) mg "rows_below" Nb.Qgp/\L2.Fn (L2.KOf KX) mg "sum_row" Nb.Vi/\L2.Fn (L2.KOf KX) mg "bound_lines" Nb.sBdL/\L2.Fn (L2.KOf KX) mg "_law_right" Nb.sRgt/\L2.Fn (L2.KOf KX) mg "parts_of" Nb.sPts/\L2.Fn (L2.KOf KX) mg "renewed" Nb.sRnw/\L2.Fn (L2.KOf KX) mg "settle" Nb.sSet/\L2.Fn (L2.KOf KX) mg "least_corner" Nb.sLcr/\L2.Fn (L2.KOf KX) mg "divisor" Nb.Wc/\L2.Fn (L2.KOf KX) mg "lowest" Nb.Qog/\L2.Fn (L2.KOf KX) mg "ratio" Nb.Qgk/\L2.Fn (L2.KOf KX) mg "corner" Nb.sCor/\L2.Fn (L2.KOf KX) mg "law" Nb.sLaw:=by
   dsimp only[L2.KOf]
   refine⟨?_,?_,?_,?_,?_,?_,?_,?_,?_,?_,?_,?_,?_,?_,?_,?_,?_,?_,?_,?_,?_,?_,?_,?_,?_,?_,?_,?_,?_,?_,?_,?_,?_,?_,?_,?_,?_⟩<;>(refine' L2.Yt KX G ?a ?l ?c ?k;case a | l | c | k=>k_is)
  have M:Nb.Mg mg:=by
   refine' ⟨PySem.W.mg_none_of KX G ?m_len,PySem.W.mg_none_of KX G ?m_min,PySem.W.mg_none_of KX G ?m_max,PySem.W.mg_none_of KX G ?m_sum,PySem.W.mg_none_of KX G ?m_all,PySem.W.mg_none_of KX G ?m_any,PySem.W.mg_none_of KX G ?m_abs,PySem.W.mg_none_of KX G ?m_isinstance,PySem.W.mg_none_of KX G ?m_sorted,PySem.W.mg_none_of KX G ?m_range_,PySem.W.mg_none_of KX G ?m_zip_,PySem.W.mg_none_of KX G ?m_tuple_,PySem.W.mg_none_of KX G ?m_list_,PySem.W.mg_none_of KX G ?m_int_,PySem.W.mg_none_of KX G ?m_bool_,PySem.W.mg_none_of KX G ?m_dict_,PySem.W.mg_none_of KX G ?m_enumerate_,PySem.W.mg_none_of KX G ?m_reversed_,PySem.W.mg_none_of KX G ?m_ValueError_,PySem.W.mg_none_of KX G ?m_set_,PySem.W.mg_none_of KX G ?m_str_⟩
   (case m_len | m_min | m_max | m_sum | m_all | m_any | m_abs | m_isinstance | m_sorted | m_range_ | m_zip_ | m_tuple_ | m_list_ | m_int_ | m_bool_ | m_dict_ | m_enumerate_ | m_reversed_ | m_ValueError_ | m_set_ | m_str_=>k_is)
  have CL:∃(CT fZinit fZadd_row fZis_over fZfirst_line fZworths fZlacks fZend fZchoice_lack fZrow_lack fZfurthest fZweight fZside fZline_to fZhelps fZnearer fZnearest fZflip fZcolumn_for fZis_too_little fZis_idle fZexchange fZtimes fZtimes_against:Addr) (fdZinit fdZadd_row fdZis_over fdZfirst_line fdZworths fdZlacks fdZend fdZchoice_lack fdZrow_lack fdZfurthest fdZweight fdZside fdZline_to fdZhelps fdZnearer fdZnearest fdZflip fdZcolumn_for fdZis_too_little fdZis_idle fdZexchange fdZtimes fdZtimes_against:FuncData),Nb.TbTxt (L2.KOf KX) mg CT/\L2.Mk (L2.KOf KX) CT fZinit/\L2.Fun (L2.KOf KX) "__init__" "Tableau.__init__" Nb.sIni fZinit fdZinit/\L2.Fun (L2.KOf KX) "add_row" "Tableau.add_row" Nb.sAdd fZadd_row fdZadd_row/\L2.Meth (L2.KOf KX) CT "add_row" fZadd_row/\L2.Fun (L2.KOf KX) "is_over" "Tableau.is_over" Nb.sOvr fZis_over fdZis_over/\L2.Meth (L2.KOf KX) CT "is_over" fZis_over/\L2.Fun (L2.KOf KX) "first_line" "Tableau.first_line" Nb.sFlL fZfirst_line fdZfirst_line/\L2.Meth (L2.KOf KX) CT "first_line" fZfirst_line/\L2.Fun (L2.KOf KX) "worths" "Tableau.worths" Nb.sWor fZworths fdZworths/\L2.Meth (L2.KOf KX) CT "worths" fZworths/\L2.Fun (L2.KOf KX) "lacks" "Tableau.lacks" Nb.sLcs fZlacks fdZlacks/\L2.Meth (L2.KOf KX) CT "lacks" fZlacks/\L2.Fun (L2.KOf KX) "end" "Tableau.end" Nb.sEnd fZend fdZend/\L2.Meth (L2.KOf KX) CT "end" fZend/\L2.Fun (L2.KOf KX) "choice_lack" "Tableau.choice_lack" Nb.sChL fZchoice_lack fdZchoice_lack/\L2.Meth (L2.KOf KX) CT "choice_lack" fZchoice_lack/\L2.Fun (L2.KOf KX) "row_lack" "Tableau.row_lack" Nb.sRwL fZrow_lack fdZrow_lack/\L2.Meth (L2.KOf KX) CT "row_lack" fZrow_lack/\L2.Fun (L2.KOf KX) "furthest" "Tableau.furthest" Nb.sFur fZfurthest fdZfurthest/\L2.Meth (L2.KOf KX) CT "furthest" fZfurthest/\L2.Fun (L2.KOf KX) "weight" "Tableau.weight" Nb.sWgt fZweight fdZweight/\L2.Meth (L2.KOf KX) CT "weight" fZweight/\L2.Fun (L2.KOf KX) "side" "Tableau.side" Nb.sSid fZside fdZside/\L2.Meth (L2.KOf KX) CT "side" fZside/\L2.Fun (L2.KOf KX) "line_to" "Tableau.line_to" Nb.sLTo fZline_to fdZline_to/\L2.Meth (L2.KOf KX) CT "line_to" fZline_to/\L2.Fun (L2.KOf KX) "helps" "Tableau.helps" Nb.sHlp fZhelps fdZhelps/\L2.Meth (L2.KOf KX) CT "helps" fZhelps/\L2.Fun (L2.KOf KX) "nearer" "Tableau.nearer" Nb.sNrr fZnearer fdZnearer/\L2.Meth (L2.KOf KX) CT "nearer" fZnearer/\L2.Fun (L2.KOf KX) "nearest" "Tableau.nearest" Nb.sNst fZnearest fdZnearest/\L2.Meth (L2.KOf KX) CT "nearest" fZnearest/\L2.Fun (L2.KOf KX) "flip" "Tableau.flip" Nb.sFlp fZflip fdZflip/\L2.Meth (L2.KOf KX) CT "flip" fZflip/\L2.Fun (L2.KOf KX) "column_for" "Tableau.column_for" Nb.sCoF fZcolumn_for fdZcolumn_for/\L2.Meth (L2.KOf KX) CT "column_for" fZcolumn_for/\L2.Fun (L2.KOf KX) "is_too_little" "Tableau.is_too_little" Nb.sTLi fZis_too_little fdZis_too_little/\L2.Meth (L2.KOf KX) CT "is_too_little" fZis_too_little/\L2.Fun (L2.KOf KX) "is_idle" "Tableau.is_idle" Nb.sIdl fZis_idle fdZis_idle/\L2.Meth (L2.KOf KX) CT "is_idle" fZis_idle/\L2.Fun (L2.KOf KX) "exchange" "Tableau.exchange" Nb.sExc fZexchange fdZexchange/\L2.Meth (L2.KOf KX) CT "exchange" fZexchange/\L2.Fun (L2.KOf KX) "times" "Tableau.times" Nb.sTim fZtimes fdZtimes/\L2.Meth (L2.KOf KX) CT "times" fZtimes/\L2.Fun (L2.KOf KX) "times_against" "Tableau.times_against" Nb.sTAg fZtimes_against fdZtimes_against/\L2.Meth (L2.KOf KX) CT "times_against" fZtimes_against:=by
   dsimp only[L2.KOf]
   refine' ⟨_,_,_,_,_,_,_,_,_,_,_,_,_,_,_,_,_,_,_,_,_,_,_,_,_,_,_,_,_,_,_,_,_,_,_,_,_,_,_,_,_,_,_,_,_,_,_,⟨⟨?pg,?hd,?po,?sa⟩,Nb.na_all ?n0 ?n1 ?n2 ?n3 ?n4 ?n5 ?n6 ?n7 ?n8 ?n9 ?n10,PySem.W.mg_of KX G ?aC⟩,⟨?mk,?a1,?i1,?kc⟩,L2.Yk (st:=Nb.sIni) ?l1 ?c1 ?k1,L2.Yk (st:=Nb.sAdd) ?l2 ?c2 ?k2,⟨?a2,?i2,?m2⟩,L2.Yk (st:=Nb.sOvr) ?l3 ?c3 ?k3,⟨?a3,?i3,?m3⟩,L2.Yk (st:=Nb.sFlL) ?l4 ?c4 ?k4,⟨?a4,?i4,?m4⟩,L2.Yk (st:=Nb.sWor) ?l5 ?c5 ?k5,⟨?a5,?i5,?m5⟩,L2.Yk (st:=Nb.sLcs) ?l6 ?c6 ?k6,⟨?a6,?i6,?m6⟩,L2.Yk (st:=Nb.sEnd) ?l7 ?c7 ?k7,⟨?a7,?i7,?m7⟩,L2.Yk (st:=Nb.sChL) ?l8 ?c8 ?k8,⟨?a8,?i8,?m8⟩,L2.Yk (st:=Nb.sRwL) ?l9 ?c9 ?k9,⟨?a9,?i9,?m9⟩,L2.Yk (st:=Nb.sFur) ?l10 ?c10 ?k10,⟨?a10,?i10,?m10⟩,L2.Yk (st:=Nb.sWgt) ?l11 ?c11 ?k11,⟨?a11,?i11,?m11⟩,L2.Yk (st:=Nb.sSid) ?l12 ?c12 ?k12,⟨?a12,?i12,?m12⟩,L2.Yk (st:=Nb.sLTo) ?l13 ?c13 ?k13,⟨?a13,?i13,?m13⟩,L2.Yk (st:=Nb.sHlp) ?l14 ?c14 ?k14,⟨?a14,?i14,?m14⟩,L2.Yk (st:=Nb.sNrr) ?l15 ?c15 ?k15,⟨?a15,?i15,?m15⟩,L2.Yk (st:=Nb.sNst) ?l16 ?c16 ?k16,⟨?a16,?i16,?m16⟩,L2.Yk (st:=Nb.sFlp) ?l17 ?c17 ?k17,⟨?a17,?i17,?m17⟩,L2.Yk (st:=Nb.sCoF) ?l18 ?c18 ?k18,⟨?a18,?i18,?m18⟩,L2.Yk (st:=Nb.sTLi) ?l19 ?c19 ?k19,⟨?a19,?i19,?m19⟩,L2.Yk (st:=Nb.sIdl) ?l20 ?c20 ?k20,⟨?a20,?i20,?m20⟩,L2.Yk (st:=Nb.sExc) ?l21 ?c21 ?k21,⟨?a21,?i21,?m21⟩,L2.Yk (st:=Nb.sTim) ?l22 ?c22 ?k22,⟨?a22,?i22,?m22⟩,L2.Yk (st:=Nb.sTAg) ?l23 ?c23 ?k23,⟨?a23,?i23,?m23⟩⟩
   (case aC | a1 | i1 | l1 | c1 | k1 | a2 | i2 | l2 | c2 | k2 | m2 | a3 | i3 | l3 | c3 | k3 | m3 | a4 | i4 | l4 | c4 | k4 | m4 | a5 | i5 | l5 | c5 | k5 | m5 | a6 | i6 | l6 | c6 | k6 | m6 | a7 | i7 | l7 | c7 | k7 | m7 | a8 | i8 | l8 | c8 | k8 | m8 | a9 | i9 | l9 | c9 | k9 | m9 | a10 | i10 | l10 | c10 | k10 | m10 | a11 | i11 | l11 | c11 | k11 | m11 | a12 | i12 | l12 | c12 | k12 | m12 | a13 | i13 | l13 | c13 | k13 | m13 | a14 | i14 | l14 | c14 | k14 | m14 | a15 | i15 | l15 | c15 | k15 | m15 | a16 | i16 | l16 | c16 | k16 | m16 | a17 | i17 | l17 | c17 | k17 | m17 | a18 | i18 | l18 | c18 | k18 | m18 | a19 | i19 | l19 | c19 | k19 | m19 | a20 | i20 | l20 | c20 | k20 | m20 | a21 | i21 | l21 | c21 | k21 | m21 | a22 | i22 | l22 | c22 | k22 | m22 | a23 | i23 | l23 | c23 | k23 | m23 | pg | hd | po | sa | mk | kc=>k_is)
   (case n0=>unfold L2.NoAttr;k_is);(case n1=>unfold L2.NoAttr;k_is);(case n2=>unfold L2.NoAttr;k_is);(case n3=>unfold L2.NoAttr;k_is);(case n4=>unfold L2.NoAttr;k_is);(case n5=>unfold L2.NoAttr;k_is);(case n6=>unfold L2.NoAttr;k_is);(case n7=>unfold L2.NoAttr;k_is);(case n8=>unfold L2.NoAttr;k_is);(case n9=>unfold L2.NoAttr;k_is);(case n10=>unfold L2.NoAttr;k_is)
  obtain⟨CT,fZinit,fZadd_row,fZis_over,fZfirst_line,fZworths,fZlacks,fZend,fZchoice_lack,fZrow_lack,fZfurthest,fZweight,fZside,fZline_to,fZhelps,fZnearer,fZnearest,fZflip,fZcolumn_for,fZis_too_little,fZis_idle,fZexchange,fZtimes,fZtimes_against,fdZinit,fdZadd_row,fdZis_over,fdZfirst_line,fdZworths,fdZlacks,fdZend,fdZchoice_lack,fdZrow_lack,fdZfurthest,fdZweight,fdZside,fdZline_to,fdZhelps,fdZnearer,fdZnearest,fdZflip,fdZcolumn_for,fdZis_too_little,fdZis_idle,fdZexchange,fdZtimes,fdZtimes_against,T,mI,FZinit,FZadd_row,mZadd_row,FZis_over,mZis_over,FZfirst_line,mZfirst_line,FZworths,mZworths,FZlacks,mZlacks,FZend,mZend,FZchoice_lack,mZchoice_lack,FZrow_lack,mZrow_lack,FZfurthest,mZfurthest,FZweight,mZweight,FZside,mZside,FZline_to,mZline_to,FZhelps,mZhelps,FZnearer,mZnearer,FZnearest,mZnearest,FZflip,mZflip,FZcolumn_for,mZcolumn_for,FZis_too_little,mZis_too_little,FZis_idle,mZis_idle,FZexchange,mZexchange,FZtimes,mZtimes,FZtimes_against,mZtimes_against⟩:=CL
  have bZinit:=FZinit.binds (ps:=["self","rows","costs"]) fun _ _ _ _ _ _=>L2.Jv (fun _ _ _=>rfl)
  have bZadd_row:=FZadd_row.binds (ps:=["self","row"]) fun _ _ _ _ _ _=>L2.Zo (fun _ _=>rfl)
  have bZis_over:=FZis_over.binds (ps:=["self","limit","patience"]) fun _ _ _ _ _ _=>L2.Jv (fun _ _ _=>rfl)
  have bZfirst_line:=FZfirst_line.binds (ps:=["self","numbers"]) fun _ _ _ _ _ _=>L2.Zo (fun _ _=>rfl)
  have bZworths:=FZworths.binds (ps:=["self"]) fun _ _ _ _ _ _=>L2.bind1 (fun _=>rfl)
  have bZlacks:=FZlacks.binds (ps:=["self"]) fun _ _ _ _ _ _=>L2.bind1 (fun _=>rfl)
  have bZend:=FZend.binds (ps:=["self","choice","side"]) fun _ _ _ _ _ _=>L2.Jv (fun _ _ _=>rfl)
  have bZchoice_lack:=FZchoice_lack.binds (ps:=["self","choice"]) fun _ _ _ _ _ _=>L2.Zo (fun _ _=>rfl)
  have bZrow_lack:=FZrow_lack.binds (ps:=["self","number","worths"]) fun _ _ _ _ _ _=>L2.Jv (fun _ _ _=>rfl)
  have bZfurthest:=FZfurthest.binds (ps:=["self","lacks"]) fun _ _ _ _ _ _=>L2.Zo (fun _ _=>rfl)
  have bZweight:=FZweight.binds (ps:=["self","thing"]) fun _ _ _ _ _ _=>L2.Zo (fun _ _=>rfl)
  have bZside:=FZside.binds (ps:=["self","thing"]) fun _ _ _ _ _ _=>L2.Zo (fun _ _=>rfl)
  have bZline_to:=FZline_to.binds (ps:=["self","thing","side"]) fun _ _ _ _ _ _=>L2.Jv (fun _ _ _=>rfl)
  have bZhelps:=FZhelps.binds (ps:=["self","number","column","side"]) fun _ _ _ _ _ _=>L2.Qch (fun _ _ _ _=>rfl)
  have bZnearer:=FZnearer.binds (ps:=["self","line","column","other"]) fun _ _ _ _ _ _=>L2.Qch (fun _ _ _ _=>rfl)
  have bZnearest:=FZnearest.binds (ps:=["self","line","side"]) fun _ _ _ _ _ _=>L2.Jv (fun _ _ _=>rfl)
  have bZflip:=FZflip.binds (ps:=["self","column","lines"]) fun _ _ _ _ _ _=>L2.Jv (fun _ _ _=>rfl)
  have bZcolumn_for:=FZcolumn_for.binds (ps:=["self","line","side","plain"]) fun _ _ _ _ _ _=>L2.Qch (fun _ _ _ _=>rfl)
  have bZis_too_little:=FZis_too_little.binds (ps:=["self","line","column"]) fun _ _ _ _ _ _=>L2.Jv (fun _ _ _=>rfl)
  have bZis_idle:=FZis_idle.binds (ps:=["self","column"]) fun _ _ _ _ _ _=>L2.Zo (fun _ _=>rfl)
  have bZexchange:=FZexchange.binds (ps:=["self","thing","line","column","side"]) fun _ _ _ _ _ _=>L2.bind5 (fun _ _ _ _ _=>rfl)
  have bZtimes:=FZtimes.binds (ps:=["self","line","sign"]) fun _ _ _ _ _ _=>L2.Jv (fun _ _ _=>rfl)
  have bZtimes_against:=FZtimes_against.binds (ps:=["self","thing","line","side"]) fun _ _ _ _ _ _=>L2.Qch (fun _ _ _ _=>rfl)
  have PX:∃tP,mg "PATIENCE"=some (.int 100 tP):=by
   refine' ⟨_,PySem.W.mg_of KX G ?f1⟩
   (case f1=>exact rfl)
  obtain⟨tP,hPa⟩:=PX
  have CS:∃(C fI fP fL:Addr) (fdI fdP fdL:FuncData),Nb.ShTxt (L2.KOf KX) mg C/\L2.Mk (L2.KOf KX) C fI/\L2.Fun (L2.KOf KX) "__init__" "Sheet.__init__" Nb.Qah fI fdI/\L2.Fun (L2.KOf KX) "put" "Sheet.put" Nb.Qed fP fdP/\L2.Meth (L2.KOf KX) C "put" fP/\L2.Fun (L2.KOf KX) "line_of" "Sheet.line_of" Nb.Qai fL fdL/\L2.Meth (L2.KOf KX) C "line_of" fL:=by
   dsimp only[L2.KOf]
   refine' ⟨_,_,_,_,_,_,_,⟨⟨?pg,?hd,?po,?sa⟩,?nR,?nL,?nP,PySem.W.mg_of KX G ?aC⟩,⟨?mk,?a1,?i1,?kc⟩,L2.Yk (st:=Nb.Qah) ?l1 ?c1 ?k1,L2.Yk (st:=Nb.Qed) ?l2 ?c2 ?k2,⟨?a2,?i2,?m2⟩,L2.Yk (st:=Nb.Qai) ?l3 ?c3 ?k3,⟨?a3,?i3,?m3⟩⟩
   (case aC | a1 | i1 | l1 | c1 | k1 | a2 | i2 | l2 | c2 | k2 | m2 | a3 | i3 | l3 | c3 | k3 | m3 | pg | hd | po | sa | mk | kc=>k_is)
   (case nR=>unfold L2.NoAttr;k_is);(case nL=>unfold L2.NoAttr;k_is);(case nP=>unfold L2.NoAttr;k_is)
  obtain⟨C,fI,fP,fL,fdI,fdP,fdL,TS,mkI,FI,FP,mP,FL,mL⟩:=CS
  have bI:=FI.binds (ps:=["self","rows"]) fun _ _ _ _ _ _=>L2.Zo (fun _ _=>rfl)
  have bP:=FP.binds (ps:=["self","line"]) fun _ _ _ _ _ _=>L2.Zo (fun _ _=>rfl)
  have bL:=FL.binds (ps:=["self","number"]) fun _ _ _ _ _ _=>L2.Zo (fun _ _=>rfl)
  obtain⟨f,fd,FF,hm⟩:=F37
  have e0:=hmg.symm.trans hm
  cases e0
  refine' ⟨fd,?b,fun base kb nb=>Nb.all_ok M hPa T mI FZinit bZinit FZadd_row bZadd_row mZadd_row FZis_over bZis_over mZis_over FZfirst_line bZfirst_line mZfirst_line FZworths bZworths mZworths FZlacks bZlacks mZlacks FZend bZend mZend FZchoice_lack bZchoice_lack mZchoice_lack FZrow_lack bZrow_lack mZrow_lack FZfurthest bZfurthest mZfurthest FZweight bZweight mZweight FZside bZside mZside FZline_to bZline_to mZline_to FZhelps bZhelps mZhelps FZnearer bZnearer mZnearer FZnearest bZnearest mZnearest FZflip bZflip mZflip FZcolumn_for bZcolumn_for mZcolumn_for FZis_too_little bZis_too_little mZis_too_little FZis_idle bZis_idle mZis_idle FZexchange bZexchange mZexchange FZtimes bZtimes mZtimes FZtimes_against bZtimes_against mZtimes_against TS mkI FI bI FP bP mP FL bL mL F1 F2 F3 F4 F5 F6 F7 F8 F9 F10 F11 F12 F13 F14 F15 F16 F17 F18 F19 F20 F21 F22 F23 F24 F25 F26 F27 F28 F29 F30 F31 F32 F33 F34 F35 F36 FF⟩
  obtain⟨oc,od,kV,doc,pm,an,cdv,ct,osl,rfl,lk,hcd⟩:=FF.ex
  exact fun s u=>.of_eq rfl

