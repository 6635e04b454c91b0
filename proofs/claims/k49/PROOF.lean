import PyProof.Rows.All
import Wide.All
import OpenK.AllK
import Wide.FinOn
import Lean
import PyProof.EqAt
import PyProof.EqKinds
import PyProof.TupleCall
import PyProof.JoinWalk
import PyProof.DictIter
import PyProof.SeqI3
import PyProof.WalkInts
import PyProof.DictTruth
import PyProof.ListRange
import PyProof.DictWalks
import PySem.Challenge.RW_dialecthall_k49_large_tables
set_option Elab.async false
set_option linter.all false
set_option maxRecDepth 100000
theorem Yz:type_of% @if_neg:=@if_neg
theorem YA:type_of% @if_pos:=@if_pos
theorem YB:type_of% @Nat.le_refl:=@Nat.le_refl
theorem YC:type_of% @List.length_map:=@List.length_map
theorem YD:type_of% @PySem.wpAny_bind:=@PySem.wpAny_bind
theorem YE:type_of% @List.length_append:=@List.length_append
theorem YF:type_of% @List.mem_singleton:=@List.mem_singleton
theorem YG:type_of% @List.getElem?_eq_some_iff:=@List.getElem?_eq_some_iff
theorem YH:type_of% @List.size_toArray:=@List.size_toArray
theorem YI:type_of% @PySem.Heap.get?_push_of_some:=@PySem.Heap.get?_push_of_some
theorem YJ:type_of% @decide_eq_true:=@decide_eq_true
theorem YK:type_of% @decide_eq_false:=@decide_eq_false
theorem YN:type_of% @Bool.false_ne_true:=@Bool.false_ne_true
theorem YO:type_of% @Nat.lt_of_le_of_lt:=@Nat.lt_of_le_of_lt
theorem YQ:type_of% @PySem.Heap.lt_size:=@PySem.Heap.lt_size
theorem YR:type_of% @List.take_of_length_le:=@List.take_of_length_le
theorem YS:type_of% @List.mem_cons_of_mem:=@List.mem_cons_of_mem
theorem YT:type_of% @List.mem_of_getElem?:=@List.mem_of_getElem?
theorem YU:type_of% @Nat.le_trans:=@Nat.le_trans
theorem YV:type_of% @List.getElem?_eq_getElem:=@List.getElem?_eq_getElem
theorem YW:type_of% @List.map_append:=@List.map_append
theorem YX:type_of% @Array.length_toList:=@Array.length_toList
theorem YY:type_of% @List.length_cons:=@List.length_cons
theorem YZ:type_of% @Nat.lt_of_lt_of_le:=@Nat.lt_of_lt_of_le
theorem Y0:type_of% @Option.some.inj:=@Option.some.inj
theorem Y3:type_of% @List.mem_append:=@List.mem_append
theorem Y4:type_of% @List.mem_append_right:=@List.mem_append_right
theorem Y5:type_of% @PySem.wpAny_pure:=@PySem.wpAny_pure
theorem Y6:type_of% @List.mem_cons_self:=@List.mem_cons_self
theorem Y7:type_of% @List.mem_cons:=@List.mem_cons
theorem Y8:type_of% @List.append_assoc:=@List.append_assoc
theorem Y9:type_of% @PySem.F.plainAttrs_list:=@PySem.F.plainAttrs_list
theorem Za:type_of% @Nat.ne_of_lt:=@Nat.ne_of_lt
theorem Zb:type_of% @PySem.F.slot_list_append:=@PySem.F.slot_list_append
theorem Zc:type_of% @PySem.F.type_list_append:=@PySem.F.type_list_append
theorem Zd:type_of% @Nat.zero_le:=@Nat.zero_le
theorem Ze:type_of% @List.append_nil:=@List.append_nil
theorem Zf:type_of% @PySem.mem_of_lookup:=@PySem.mem_of_lookup
theorem Zg:type_of% @of_decide_eq_true:=@of_decide_eq_true
theorem Zh:type_of% @PySem.PassesOwn.never:=@PySem.PassesOwn.never
theorem Zi:type_of% @PySem.Heap.get?_push_size:=@PySem.Heap.get?_push_size
theorem Zj:type_of% @Bool.false_eq_true:=@Bool.false_eq_true
theorem Zk:type_of% @List.getElem?_map:=@List.getElem?_map
theorem Zl:type_of% @List.map_cons:=@List.map_cons
theorem Zm:type_of% @Option.map_some:=@Option.map_some
theorem Zn:type_of% @List.length_take:=@List.length_take
theorem Zo:type_of% @List.length_replicate:=@List.length_replicate
theorem Zp:type_of% @List.mem_append_left:=@List.mem_append_left
theorem Zq:type_of% @PySem.wpAny_mono:=@PySem.wpAny_mono
theorem Zr:type_of% @List.lookup_cons:=@List.lookup_cons
theorem Zs:type_of% @List.all_eq_true:=@List.all_eq_true
theorem Zt:type_of% @List.foldl_append:=@List.foldl_append
theorem Zu:type_of% @Bool.eq_iff_iff:=@Bool.eq_iff_iff
theorem Zv:type_of% @List.sum_append:=@List.sum_append
theorem Zw:type_of% @List.foldl_cons:=@List.foldl_cons
theorem Zx:type_of% @List.mem_map:=@List.mem_map
theorem Zy:type_of% @List.sum_cons:=@List.sum_cons
theorem Zz:type_of% @List.getElem?_eq_none:=@List.getElem?_eq_none
theorem ZA:type_of% @List.length_set:=@List.length_set
theorem ZC:type_of% @PySem.wpAny_specialOf:=@PySem.wpAny_specialOf
theorem ZD:type_of% @List.length_range:=@List.length_range
theorem ZE:type_of% @PySem.W.kia_one:=@PySem.W.kia_one
theorem ZF:type_of% @PySem.Heap.size_push:=@PySem.Heap.size_push
theorem ZG:type_of% @List.mem_flatMap:=@List.mem_flatMap
theorem ZH:type_of% @PyProof.Rows.callWith_type1:=@PyProof.Rows.callWith_type1
theorem ZI:type_of% @Ne.symm:=@Ne.symm
theorem ZJ:type_of% @PySem.wpAny_passesOwn:=@PySem.wpAny_passesOwn
theorem ZK:type_of% @List.nodup_cons:=@List.nodup_cons
theorem ZL:type_of% @List.find?_cons:=@List.find?_cons
theorem ZN:type_of% @List.nil_append:=@List.nil_append
theorem ZO:type_of% @PySem.Paired.length:=@PySem.Paired.length
theorem ZQ:type_of% @Nat.lt_irrefl:=@Nat.lt_irrefl
theorem ZR:type_of% @List.getElem?_append_right:=@List.getElem?_append_right
theorem ZS:type_of% @if_false:=@if_false
theorem ZT:type_of% @decide_eq_true_eq:=@decide_eq_true_eq
theorem ZU:type_of% @Nat.le_succ_of_le:=@Nat.le_succ_of_le
theorem ZV:type_of% @beq_eq_false_iff_ne:=@beq_eq_false_iff_ne
theorem ZW:type_of% @List.filterMap_cons:=@List.filterMap_cons
theorem ZX:type_of% @Bool.not_true:=@Bool.not_true
theorem ZY:type_of% @Int.emod_nonneg:=@Int.emod_nonneg
theorem O{α:Sort _}{a:α}:a=a:=rfl
namespace L2
open PySem PySem.Spec PyProof.Rows
abbrev Key:=Sum Int Str
def qD:Key->Value->Bool
 | .inl k,v=>Value.isInt k v
 | .inr x,v=>Value.isStrOf x v
def Lx(w:World):Key->Int
 | .inl k=>hashInt k
 | .inr x=>hashStr w x
theorem bO:∀{k:Key}{v:Value},qD k v=true->(∃i t,k=Sum.inl i/\v=Value.int i t)\/(∃x t,k=Sum.inr x/\v=Value.str x t)
 | .inl i,v,h=>by
  obtain⟨t,e⟩:=Value.isInt_shape (k:=i) (v:=v) h
  exact .inl ⟨i,t,rfl,e⟩
 | .inr x,v,h=>by
  obtain⟨t,e⟩:=Value.isStrOf_shape (x:=x) (v:=v) h
  exact .inr ⟨x,t,rfl,e⟩
theorem BS(i:Int)(t:Tok):qD (.inl i) (.int i t)=true:=by simp[qD,Value.isInt]
theorem BU(x:Str)(t:Tok):qD (.inr x) (.str x t)=true:=by simp[qD,Value.isStrOf]
theorem Dp(a b:Int):decide ((Sum.inl a:Key)=Sum.inl b)=(a==b):=by
 by_cases e:a=b
 ·subst e;simp
 ·have h:¬(Sum.inl a:Key)=Sum.inl b:=λq=>e (Sum.inl.inj q)
  rw[YK h]
  exact(ZV.mpr e).symm
theorem Dq(a b:Str):decide ((Sum.inr a:Key)=Sum.inr b)=decide (a=b):=by
 by_cases e:a=b
 ·subst e;simp
 ·have h:¬(Sum.inr a:Key)=Sum.inr b:=λq=>e (Sum.inr.inj q)
  rw[YK h,YK e]
theorem Dr(a:Int)(b:Str):decide ((Sum.inl a:Key)=Sum.inr b)=false:=YK (λq=>nomatch q)
theorem Ds(a:Str)(b:Int):decide ((Sum.inr a:Key)=Sum.inl b)=false:=YK (λq=>nomatch q)
def jo(prog:Program)(w:World):PySem.KeyKind prog w Key where
 is:=qD
 hash:=Lx w
 inj:=λv a b ha hb=>by
  rcases bO ha with ⟨i,t,rfl,rfl⟩|⟨x,t,rfl,rfl⟩
  ·rcases bO hb with ⟨j,u,rfl,e⟩|⟨y,u,rfl,e⟩
   ·injection e with e1 _;rw[e1]
   ·exact nomatch e
  ·rcases bO hb with ⟨j,u,rfl,e⟩|⟨y,u,rfl,e⟩
   ·exact nomatch e
   ·injection e with e1 _;rw[e1]
 byValue:=λk v h=>by
  rcases bO h with ⟨i,t,rfl,rfl⟩|⟨x,t,rfl,rfl⟩<;>rfl
 pyHash:=λhv h=>by
  rcases bO hv with ⟨i,t,rfl,rfl⟩|⟨x,t,rfl,rfl⟩
  ·exact wpAny_pyHash_int h
  ·exact wpAny_pyHash_str h
 eqBool:=λhu hv h=>by
  rcases bO hu with ⟨i,t,rfl,rfl⟩|⟨x,t,rfl,rfl⟩
  ·rcases bO hv with ⟨j,u,rfl,rfl⟩|⟨y,u,rfl,rfl⟩
   ·rw[Dp]at h;exact wpAny_eqBool_int h
   ·rw[Dr]at h;exact SeqAt.EqAt.int_str i t y u _ _ _ _ h
  ·rcases bO hv with ⟨j,u,rfl,rfl⟩|⟨y,u,rfl,rfl⟩
   ·rw[Ds]at h;exact SeqAt.EqAt.str_int x t j u _ _ _ _ h
   ·rw[Dq]at h;exact wpAny_eqBool_str h
 «strs» := λk x t v h=>by
  rcases bO h with ⟨i,u,rfl,e⟩|⟨y,u,rfl,e⟩
  ·exact nomatch e
  ·injection e with e1 _
   subst e1
   cases v<;>rfl
theorem yw(prog:Program)(w:World)(i:Int)(t:Tok):(jo prog w).is (.inl i) (.int i t)=true:=BS i t
theorem yx(prog:Program)(w:World)(x:Str)(t:Tok):(jo prog w).is (.inr x) (.str x t)=true:=BU x t
inductive V where
 |non|bl (b:Bool)|int (i:Int)|str (x:Str)|Df (b:Array UInt8)|nH (b:UInt64)|ref (a:Addr)|ty (n:String)
 deriving DecidableEq
def RelV:V->Value->Prop
 | .non,u=>u=Value.none
 | .bl b,u=>u=Value.bool b
 | .int i,u=>∃t,u=Value.int i t
 | .str x,u=>∃t,u=Value.str x t
 | .Df b,u=>∃t,u=Value.bytes b t
 | .nH b,u=>∃t,u=Value.float b t
 | .ref a,u=>u=Value.ref a
 | .ty n,u=>u=Value.type n
abbrev Vals:List V->List Value->Prop:=Paired RelV
theorem Vals.length{xs:List V}{us:List Value}(r:Vals xs us):xs.length=us.length:=ZO r
theorem Vals.get:∀{xs:List V}{us:List Value}{i:Nat}{x:V},Vals xs us->xs[i]?=some x->∃u,us[i]?=some u/\RelV x u
 |_,_,_,_,.nil,e=>by simp at e
 |_,_,0,_,.cons r _,e=>by simp at e;subst e;exact⟨_,rfl,r⟩
 |_,_,i+1,x,.cons _ t,e=>by
  obtain⟨u,h1,h2⟩:=Vals.get (i:=i) (x:=x) t (by simpa using e)
  exact⟨u,by simpa using h1,h2⟩
theorem Vals.set{x:V}{u:Value}(r:RelV x u):∀{xs:List V}{us:List Value}(i:Nat),Vals xs us->Vals (xs.set i x) (us.set i u)
 |_,_,_,.nil=>.nil
 |_,_,0,.cons _ t=>.cons r t
 |_,_,i+1,.cons q t=>.cons q (Vals.set r i t)
theorem Vals.append:∀{xs ys:List V}{us ws:List Value},Vals xs us->Vals ys ws->Vals (xs++ys) (us++ws)
 |_,_,_,_,.nil,s=>s
 |_,_,_,_,.cons r t,s=>.cons r (Vals.append t s)
def nI:Option V->Option Value->Prop
 |some v,some u=>RelV v u
 |none,none=>True
 |_,_=>False
def KV{κ:Type}:List (κ×V)->List (κ×Value)->Prop:=Paired λ(p:κ×V)(q:κ×Value)=>p.1=q.1/\RelV p.2 q.2
def kV:Key->V
 | .inl i=>.int i
 | .inr x=>.str x
inductive HO where
 |lst (xs:List V)
 |tup (xs:List V)
 |dK (kvs:List (Key×V))|dT (kvs:List (List Key×V))
 |set (S:Int->Bool) (n:Nat)
 |ins (C dx:Addr) (fs:List (Str×V))
 |own (x:Addr)
 |xd (fs:List (Str×V))
 |met (f x:Addr)
 |NB (lo hi:Int)
 |zZ (o:Obj) (u:HO)
 |Ia (ps:Array Value)
 |ext (φ:Heap->Prop)
abbrev Hp:=Addr->Option HO
def upd(H:Hp)(a:Addr)(o:HO):Hp:=λb=>if b=a then some o else H b
theorem aj{H:Hp}{a:Addr}{o:HO}:upd H a o a=some o:=by unfold upd;rw[YA rfl]
theorem az{H:Hp}{a b:Addr}{o:HO}(h:b≠a):upd H a o b=H b:=by unfold upd;rw[Yz h]
theorem jg{H:Hp}{a b:Addr}{o u:HO}(h:H a=some o)(h':H b=some u)(d:o≠u):a≠b:=by
 intro e;subst e;rw[h]at h';exact d (Y0 h')
theorem aT{H:Hp}{a b:Addr}{o:HO}(h:H a=some o)(h':H b=none):a≠b:=by
 intro e;subst e;rw[h]at h';cases h'
section
variable(P:Program)(w:World)
def dj(H:Hp)(h:Heap)(a:Addr):HO->Prop
 | .lst xs=>xs.length<=sizeLine/\∃(its:List Value)(n:Nat),Vals xs its/\h.get? a=some {cls:=.type "list",data:=.seq its.toArray n}
 | .tup xs=>xs.length<=sizeLine/\∃its:List Value,Vals xs its/\IsTup h a its.toArray
 | .dK kvs=>kvs.length<=sizeLine/\(a==sysModules)=false/\∃vs,KV kvs vs/\h.DictOf (jo P w) a vs
 | .dT kvs=>kvs.length<=sizeLine/\(a==sysModules)=false/\∃xs:List (List Key×Addr×Value),Paired (λ(p:List Key×V)(q:List Key×Addr×Value)=>p.1=q.1/\H q.2.1=some (.tup (p.1.map kV))/\RelV p.2 q.2.2) kvs xs/\∃o es ep,h.get? a=some o/\o.ExactDict/\o.data=.dict es ep/\es.toList=xs.map (entryOfKey (tupleKind (jo P w)))/\(xs.map (·.1)).Nodup
 | .set S n=>h.SetOf (intKind P w) a S n
 | .ins C dx fs=>H dx=some (.own a)/\fs.length<=1000/\dx≠a/\h.get? a=some (W.instObj C dx)/\∃mA,h.Ns1 dx mA/\(∀f,nI (fs.lookup f) (mA f))/\PySem.Within mA (fs.map (·.1))
 | .own _=>∃o,h.get? a=some o
 | .xd fs=>∃mA,h.Ns1 a mA/\∀f,nI (fs.lookup f) (mA f)
 | .NB lo hi=>∃t u v,h.get? a=some {cls:=.type "range",data:=.fields #[.int lo t,.int hi u,.int 1 v]}
 | .zZ o u=>h.get? a=some o/\dj H h a u
 | .Ia ps=>h.get? a=some {cls:=.none,data:=.fields ps}
 | .met f x=>h.get? a=some (W.methodObj (.ref f) (.ref x))
 | .ext φ=>φ h/\(∃o,h.get? a=some o)/\∀h1 h2:Heap,φ h1->(∀o,h1.get? a=some o->h2.get? a=some o)->φ h2
def qE(H:Hp)(h:Heap):Prop:=∀a o,H a=some o->dj P w H h a o
end
section
variable{P:Program}{w:World}{H H':Hp}{h h':Heap}{a:Addr}{o:HO}
theorem dj.lt(x:dj P w H h a o):a<h.objs.size:=by
 cases o with
 |lst xs=>obtain⟨_,_,_,_,e⟩:=x;exact YQ e
 |tup xs=>obtain⟨_,_,_,p⟩:=x;exact p.lt
 |dK kvs=>obtain⟨_,_,_,_,o,_,_,e,_⟩:=x;exact YQ e
 |dT kvs=>obtain⟨_,_,_,_,o,_,_,e,_⟩:=x;exact YQ e
 |set S n=>obtain⟨o,_,_,_,e,_⟩:=x;exact YQ e
 |ins C dx fs=>obtain⟨_,_,_,e,_⟩:=x;exact YQ e
 |own y=>obtain⟨_,e⟩:=x;exact YQ e
 |xd fs=>obtain⟨_,⟨_,_,_,e,_⟩,_⟩:=x;exact YQ e
 |NB lo hi=>obtain⟨_,_,_,e⟩:=x;exact YQ e
 |zZ ob u=>obtain⟨e,_⟩:=x;exact YQ e
 |Ia ps=>exact YQ (show h.get? a=some _ from x)
 |met f y=>exact YQ (show h.get? a=some _ from x)
 |ext φ=>obtain⟨_,⟨_,e⟩,_⟩:=x;exact YQ e
theorem Paired.BV{α β:Type}{F G:α->β->Prop}:∀{l₁:List α}{l₂:List β},Paired F l₁ l₂->(∀a b,F a b->G a b)->Paired G l₁ l₂
 |_,_,.nil,_=>.nil
 |_,_,.cons r t,f=>.cons (f _ _ r) (Paired.BV t f)
theorem Paired.imp'{α β:Type}{F G:α->β->Prop}(f:∀a b,F a b->G a b){l₁:List α}{l₂:List β}(r:Paired F l₁ l₂):Paired G l₁ l₂:=Paired.BV r f
theorem dj.stay(x:dj P w H h a o)(k:∀b u,(b=a\/H b=some (.own a))->h.get? b=some u->h'.get? b=some u)(ho:∀b,H b=some (.own a)->H' b=some (.own a))(ht:∀b xs,H b=some (.tup xs)->H' b=some (.tup xs)):dj P w H' h' a o:=by
 induction o with
 |lst xs=>obtain⟨z,its,n,r,e⟩:=x;exact⟨z,its,n,r,k _ _ (.inl rfl) e⟩
 |tup xs=>obtain⟨z,its,r,ob,e,c⟩:=x;exact⟨z,its,r,ob,k _ _ (.inl rfl) e,c⟩
 |dK kvs=>obtain⟨z,y,vs,r,ob,es,ep,e,c⟩:=x;exact⟨z,y,vs,r,ob,es,ep,k _ _ (.inl rfl) e,c⟩
 |dT kvs =>
  obtain⟨z,y,xs,r,ob,es,ep,e,c⟩:=x
  exact⟨z,y,xs,Paired.BV r λp q z=>⟨z.1,ht _ _ z.2.1,z.2.2⟩,ob,es,ep,k _ _ (.inl rfl) e,c⟩
 |set S n=>obtain⟨ob,es,ep,t,e,c⟩:=x;exact⟨ob,es,ep,t,k _ _ (.inl rfl) e,c⟩
 |ins C dx fs =>
  obtain⟨d,z,ne,e,mA,⟨od,es,ep,e2,c⟩,r⟩:=x
  exact⟨ho _ d,z,ne,k _ _ (.inl rfl) e,mA,⟨od,es,ep,k _ _ (.inr d) e2,c⟩,r⟩
 |own y=>obtain⟨ob,e⟩:=x;exact⟨ob,k _ _ (.inl rfl) e⟩
 |xd fs=>obtain⟨mA,⟨od,es,ep,e,c⟩,r⟩:=x;exact⟨mA,⟨od,es,ep,k _ _ (.inl rfl) e,c⟩,r⟩
 |NB lo hi=>obtain⟨t,u,v,e⟩:=x;exact⟨t,u,v,k _ _ (.inl rfl) e⟩
 |zZ ob u ih=>obtain⟨e,q⟩:=x;exact⟨k _ _ (.inl rfl) e,ih q⟩
 |Ia ps =>
  have e:h.get? a=some {cls:=.none,data:=.fields ps}:=x
  show h'.get? a=some {cls:=.none,data:=.fields ps}
  exact k a _ (.inl rfl) e
 |met f y =>
  have e:h.get? a=some (W.methodObj (.ref f) (.ref y)):=x
  show h'.get? a=some (W.methodObj (.ref f) (.ref y))
  exact k a _ (.inl rfl) e
 |ext φ=>obtain⟨p,⟨o,e⟩,st⟩:=x;exact⟨st _ _ p λo q=>k _ _ (.inl rfl) q,⟨o,k _ _ (.inl rfl) e⟩,st⟩
theorem qE.lt(x:qE P w H h)(e:H a=some o):a<h.objs.size:=(x a o e).lt
theorem qE.fresh(x:qE P w H h)(e:h.objs.size<=a):H a=none:=by
 cases q:H a with
 |none=>rfl
 |some u=>exact absurd (YZ (x.lt q) e) (ZQ _)
theorem qE.kept(x:qE P w H h)(k:∀b u,h.get? b=some u->h'.get? b=some u):qE P w H h':=λa o e =>
 (x a o e).stay (λb u _ q=>k b u q) (λ_ q=>q) λ_ _ q=>q
theorem qE.laid(x:qE P w H h)(k:∀b u,h.get? b=some u->h'.get? b=some u)(hp:h.objs.size<=a)(new:dj P w (upd H a o) h' a o):qE P w (upd H a o) h':=λb u e=>by
 have hn:=x.fresh hp
 by_cases hb:b=a
 ·subst hb;rw[aj]at e;cases e;exact new
 ·rw[az hb]at e
  exact(x b u e).stay (λc v _ q=>k c v q) (λc q=>by rw[az (aT q hn)];exact q) λc xs q=>by rw[az (aT q hn)];exact q
end
def Rd(H:Hp)(a:Addr)(u:HO):Prop:=H a=some u\/∃o,H a=some (.zZ o u)
theorem Rd.ok{P:Program}{w:World}{H:Hp}{h:Heap}{a:Addr}{u:HO}(r:Rd H a u)(x:qE P w H h):dj P w H h a u:=by
 rcases r with r|⟨o,r⟩
 ·exact x a u r
 ·obtain⟨_,q⟩:=x a _ r
  exact q
def NC:Option HO->Prop
 |some (.lst _)=>True
 |some (.dK _)=>True
 |some (.dT _)=>True
 |some (.set _ _)=>True
 |some (.ins _ _ _)=>True
 |some (.ext _)=>True
 |_=>False
section
variable{P:Program}{w:World}{H:Hp}{h h':Heap}{x e:Addr}{o':HO}
theorem qE.write(ok:qE P w H h)(mu:NC (H x))(he:e=x\/H e=some (.own x))(k:∀b u,b≠e->h.get? b=some u->h'.get? b=some u)(K1:∃u,h'.get? e=some u)(new:dj P w (upd H x o') h' x o'):qE P w (upd H x o') h':=λb u q=>by
 have Ly:∀c y,H c=some (.own y)->c≠x:=λc y r z=>by subst z;rw[r]at mu;exact mu
 have N6:∀c xs,H c=some (.tup xs)->c≠x:=λc xs r z=>by subst z;rw[r]at mu;exact mu
 by_cases hb:b=x
 ·subst hb;rw[aj]at q;cases q;exact new
 ·rw[az hb]at q
  by_cases IP:b=e
  ·have q':H b=some (.own x):=by
    rcases he with z|z
    ·exact absurd (IP.trans z) hb
    ·rw[IP];exact z
   rw[q]at q';cases q'
   obtain⟨v,hv⟩:=K1
   exact⟨v,by rw[IP];exact hv⟩
  ·refine(ok b u q).stay (λc v hc r=>k c v ?_ r) (λc r=>by rw[az (Ly c b r)];exact r) λc xs r=>by rw[az (N6 c xs r)];exact r
   rcases hc with rfl|hc
   ·exact IP
   ·rintro rfl
    rcases he with z|z
    ·exact Ly c b hc z
    ·rw[hc]at z;cases z;exact hb rfl
end
structure Un(fs ex:List Addr)(H H':Hp)(h h':Heap):Prop where
 keep:∀b o,h.get? b=some o->H b=none->b∉fs->b∉ex->h'.get? b=some o
 slot:∀b o,h.get? b=some o->H b=none->b∈fs->b∉ex->∃sl,h'.get? b=some {o with slots:=sl}
 free:∀b o,h.get? b=some o->H b=none->b∉ex->H' b=none
 there:∀b o,h.get? b=some o->b∉ex->∃o',h'.get? b=some o'
 tups:∀b xs,H b=some (.tup xs)->H' b=some (.tup xs)
 wJ:∀b o u,H b=some (.zZ o u)->H' b=some (.zZ o u)
 yy:∀b ps,H b=some (.Ia ps)->∃more,H' b=some (.Ia (ps++more))
section
variable{fs fs' ex ex':List Addr}{H H1 H2:Hp}{h h1 h2 h':Heap}{a x e:Addr}{o:HO}
theorem Un.any(u:Un fs ex H H1 h h1){b:Addr}{ob:Obj}(q:h.get? b=some ob)(n:H b=none)(hx:b∉ex):∃sl,h1.get? b=some {ob with slots:=sl}:=by
 by_cases hb:b∈fs
 ·exact u.slot b ob q n hb hx
 ·exact⟨ob.slots,u.keep b ob q n hb hx⟩
theorem Un.kept(k:∀b u,h.get? b=some u->h'.get? b=some u):Un fs ex H H h h' :=
 ⟨λb ob q _ _ _=>k b ob q,λb ob q _ _ _=>⟨ob.slots,k b ob q⟩,λ_ _ _ n _=>n,λb ob q _=>⟨ob,k b ob q⟩,λ_ _ q=>q,λ_ _ _ q=>q,λ_ ps q=>⟨#[],by rw[q];simp⟩⟩
theorem Un.refl:Un fs ex H H h h:=Un.kept λ_ _ q=>q
theorem Un.laid(k:∀b u,h.get? b=some u->h'.get? b=some u)(hp:h.objs.size<=a)(hn:H a=none):Un fs ex H (upd H a o) h h' where
 keep:=λb u q _ _ _=>k b u q
 slot:=λb u q _ _ _=>⟨u.slots,k b u q⟩
 free:=λb u q n _=>by rw[az (Za (YZ (YQ q) hp))];exact n
 there:=λb u q _=>⟨u,k b u q⟩
 tups:=λb xs q=>by rw[az (aT q hn)];exact q
 wJ:=λb u xs q=>by rw[az (aT q hn)];exact q
 yy:=λb ps q=>⟨#[],by rw[az (aT q hn),q];simp⟩
theorem Un.write(mu:NC (H x))(he:e=x\/H e=some (.own x))(k:∀b u,b≠e->h.get? b=some u->h'.get? b=some u)(K1:∃u,h'.get? e=some u):Un fs ex H (upd H x o) h h':=by
 have hx:∀b,H b=none->b≠x:=λb n z=>by subst z;rw[n]at mu;exact mu
 have hb:∀b,H b=none->b≠e:=λb n z=>by
  subst z
  rcases he with r|r
  ·exact hx b n r
  ·rw[n]at r;cases r
 have hm:∀b u,H b=some u->¬NC (some u)->b≠x:=λb u q nm z=>by subst z;rw[q]at mu;exact nm mu
 refine⟨λb u q n _ _=>k b u (hb b n) q,λb u q n _ _=>⟨u.slots,k b u (hb b n) q⟩,λb u q n _=>by rw[az (hx b n)];exact n,λb u q _=>?_,λb xs q=>by rw[az (hm b _ q λz=>z)];exact q,λb u xs q=>by rw[az (hm b _ q λz=>z)];exact q,λb ps q=>⟨#[],by rw[az (hm b _ q λz=>z),q];simp⟩⟩
 by_cases IP:b=e
 ·subst IP;exact K1
 ·exact⟨u,k b u IP q⟩
end
def ND(h:Heap)(H:Hp):List Addr:=(List.range h.objs.size).filter λa=>(H a).isSome
def wK(h:Heap)(H:Hp):Heap:=W.hideAll h (ND h H)
theorem BW(h:Heap)(H:Hp):(wK h H).objs.size=h.objs.size:=W.hideAll_size _ _
theorem Dt{h:Heap}{H:Hp}{b:Addr}{o:Obj}(e:h.get? b=some o)(n:H b=none):(wK h H).get? b=some o :=
 W.hideAll_get _ e λhm=>by
  have q:(H b).isSome=true:=(List.mem_filter.mp hm).2
  rw[n]at q;simp at q
theorem Gj{h:Heap}{H:Hp}{b:Addr}{o:Obj}(e:(wK h H).get? b=some o):h.get? b=some o/\H b=none:=by
 have e':h.get? b=some o:=W.of_hideAll (ND h H) e
 refine⟨e',?_⟩
 cases q:H b with
 |none=>rfl
 |some x =>
  have hm:b∈ND h H:=List.mem_filter.mpr ⟨List.mem_range.mpr (YQ e'),by simp[q]⟩
  have z:(wK h H).get? b=none:=W.hideAll_none (ND h H) hm
  rw[z]at e;cases e
def Gk(g h:Heap)(L:Addr):List (Addr×Obj):=(List.range h.objs.size).filterMap λa=>if a=L\/(g.get? a).isSome=true then none else (h.get? a).map λo=>(a,o)
def rest(g h:Heap)(L d:Addr):List (Addr×Obj):=(Gk g h L).filter λp=>decide (p.1≠d)
structure Mod(K:W.Frag)(mg:Str->Option Value)(base:Heap):Prop where
 Lz:K.In base
 glob:base.Ns mainGlobals mg
 blt:∃mb,base.Ns builtinsNs mb/\∀x:Str,x ≠ "__name__"->mb x=bootBuiltins x
 nolimit:base.NoLimit
structure Cx where
 prog:Program
 w:World
 K:W.Frag
 mg:Str->Option Value
 base:Heap
 A:Around
 N:List Str
 s₀:Shared
 H₀:Hp
 env:Env
 outer:List Env
 stack:List Env
 ex:List Addr
 fn:Str->Bool
 calm:Bool
 pn:List (Addr×Obj)
 xe:Value->Shared->Prop
def frs(l:List Env):List Addr:=l.filterMap (·.frame)
abbrev Cx.fs(X:Cx):List Addr:=frs X.outer
def N7(sc:Scope)(x:Str):Prop:=sc.names.lookup x=some .local\/sc.names.lookup x=some .cell\/sc.names.lookup x=some .free
def Loc(sc:Scope)(x:Str):Prop:=sc.names.lookup x=some .local\/sc.names.lookup x=some .cell
def Look(env:Env)(h:Heap)(m:Str->Option Value)(x:Str)(u:Value):Prop :=
 (env.kindOf x=some .local/\m x=some u)\/((env.kindOf x=some .cell\/env.kindOf x=some .free)/\∃c,env.cells.lookup x=some c/\h.IsCell c (some u))
structure Cx.Ok(X:Cx):Prop where
 mod:Mod X.K X.mg X.base
 kind:X.env.scope.kind=.function
 glob:X.env.globals=mainGlobals
 blt:X.env.builtins=builtinsNs
 above:X.s₀.heap.objs.size<=X.env.locals
 inj:∀x y c,X.env.cells.lookup x=some c->X.env.cells.lookup y=some c->x=y
 has:∀x,(X.env.kindOf x=some .cell\/X.env.kindOf x=some .free)->∃c,X.env.cells.lookup x=some c
 LA:∀x c,X.fn x=true->X.env.cells.lookup x=some c->X.s₀.heap.objs.size<=c
 hd:X.calm=true->X.A.handled=none
 frames:X.A.frames=some X.stack
 stk:X.stack=X.outer\/(X.stack=X.env::X.outer/\X.env.frame=some X.env.locals)
 Ry:∀b∈X.ex,b≠X.env.locals/\∀x c,X.env.cells.lookup x=some c->c≠b
 bs:∀b o,X.base.get? b=some o->X.s₀.heap.get? b=some o/\X.H₀ b=none
 Dg:X.base.objs.size<=X.s₀.heap.objs.size
 BX:∀b o,X.base.get? b=some o->b∉X.ex
 Gm:∀b∈X.ex,b∉X.fs
 qR:X.s₀.heap.FunFrames X.base X.outer
 IQ:∀b∈X.fs,X.H₀ b=none
structure Inv(X:Cx)(pins:List (Addr×Obj))(σ:List (Option V))(H:Hp)(s:Shared):Prop where
 ok:X.Ok
 os:s.os=X.s₀.os
 bare:AllBare s.gens
 base:Un X.fs X.ex X.H₀ H X.s₀.heap s.heap
 loc:∃m,s.heap.Ns X.env.locals m/\∀(i:Nat)(x:Str)(v:V),X.N[i]?=some x->σ[i]?=some (some v)->N7 X.env.scope x->∃u,RelV v u/\Look X.env s.heap m x u
 cell:∀x c,X.env.cells.lookup x=some c->∃v,s.heap.IsCell c v
 free:H X.env.locals=none
 kr:∀x c,X.env.cells.lookup x=some c->H c=none
 pin:∀p∈X.pn++pins,s.heap.get? p.1=some p.2/\H p.1=none/\p.1≠X.env.locals/\p.1∉X.fs/\∀v,p.2.data≠.cell v
 hok:qE X.prog X.w H s.heap
 len:σ.length=X.N.length
section
variable{X:Cx}{pins:List (Addr×Obj)}{σ:List (Option V)}{H H':Hp}{s:Shared}{h':Heap}
theorem Cx.Ok.N8(ok:X.Ok){b:Addr}{o:Obj}(e:X.base.get? b=some o):b∉X.fs:=λhb=>by
 have:=(ok.qR.mem hb).1
 rw[e]at this;cases this
theorem Inv.bs(I:Inv X pins σ H s):∀b o,X.base.get? b=some o->s.heap.get? b=some o/\H b=none:=λb o e =>
 ⟨I.base.keep b o (I.ok.bs b o e).1 (I.ok.bs b o e).2 (I.ok.N8 e) (I.ok.BX b o e),I.base.free b o (I.ok.bs b o e).1 (I.ok.bs b o e).2 (I.ok.BX b o e)⟩
theorem Inv.bk(I:Inv X pins σ H s):∀b o,X.base.get? b=some o->s.heap.get? b=some o:=λb o e=>(I.bs b o e).1
theorem Inv.mod(I:Inv X pins σ H s):Mod X.K X.mg X.base:=I.ok.mod
theorem Inv.pF(I:Inv X pins σ H s):X.K.In s.heap:=I.ok.mod.Lz.keeps I.bk
theorem Inv.fr(I:Inv X pins σ H s):∃m,Fr X.base X.env.locals s.heap m :=
 let ⟨m,hn,_⟩:=I.loc
 ⟨m,hn,I.bk,YU I.ok.Dg I.ok.above⟩
theorem Inv.lt(I:Inv X pins σ H s):X.env.locals<s.heap.objs.size:=let ⟨_,hn,_⟩:=I.loc;hn.lt
theorem Inv.sz(I:Inv X pins σ H s):X.s₀.heap.objs.size<=s.heap.objs.size:=YU I.ok.above (Nat.le_of_lt I.lt)
theorem Inv.N9(I:Inv X pins σ H s){a:Addr}(h:s.heap.objs.size<=a):a∉X.fs:=λhb=>by
 obtain⟨_,o,ho,_⟩:=I.ok.qR.mem hb
 exact absurd (YZ (YQ ho) (YU I.sz h)) (ZQ _)
theorem Inv.IS(I:Inv X pins σ H s):∀x c,X.env.cells.lookup x=some c->c≠X.env.locals:=λx c e z=>by
 obtain⟨v,o,ho,hd⟩:=I.cell x c e
 obtain⟨m,⟨o',es,ep,ho',hd',_⟩,_⟩:=I.loc
 rw[z,ho']at ho;cases ho;rw[hd']at hd;cases hd
theorem Inv.qR(I:Inv X pins σ H s):s.heap.FunFrames X.base X.outer:=by
 have all:∀(l:List Env),(∀b∈frs l,b∈X.fs)->X.s₀.heap.FunFrames X.base l->s.heap.FunFrames X.base l:=by
  intro l
  induction l with
  |nil=>intro _ _;trivial
  |cons env r ih =>
   intro hs hl
   obtain⟨hk,⟨L,o,hf,hn,ho,hd⟩,hr⟩:=hl
   have hL:L∈X.fs:=hs L (by unfold frs;rw[ZW,hf];exact Y6)
   obtain⟨sl,e⟩:=I.base.slot L o ho (I.ok.IQ L hL) hL λz=>I.ok.Gm L z hL
   exact⟨hk,⟨L,_,hf,hn,e,hd⟩,ih (λb hb=>hs b (by unfold frs;rw[ZW,hf];exact YS _ hb)) hr⟩
 exact all X.outer (λ_ hb=>hb) I.ok.qR
theorem Inv.stack(I:Inv X pins σ H s):s.heap.FunFrames X.base X.stack:=by
 rcases I.ok.stk with e|⟨e,hf⟩
 ·rw[e];exact I.qR
 ·rw[e]
  obtain⟨m,hn,_⟩:=I.loc
  refine .cons (by rw[I.ok.kind];decide) hf hn ?_ I.qR
  exact Heap.get?_none_of_le (YU I.ok.Dg I.ok.above)
theorem Inv.pG(I:Inv X pins σ H s):∀b∈frs X.stack,b∈X.env.locals::X.fs:=λb hb=>by
 rcases I.ok.stk with e|⟨e,hf⟩
 ·rw[e]at hb;exact YS _ hb
 ·rw[e]at hb
  unfold frs at hb
  rw[ZW,hf]at hb
  exact hb
theorem Inv.wL(I:Inv X pins σ H s):∀b∈frs X.stack,H b=none:=λb hb=>by
 rcases Y7.mp (I.pG b hb) with e|hb
 ·rw[e];exact I.free
 ·obtain⟨_,o,ho,_⟩:=I.ok.qR.mem hb
  exact I.base.free b o ho (I.ok.IQ b hb) λz=>I.ok.Gm b z hb
theorem Inv.step{g':Array GenState}{t':Nat}{d':Drawn}{ch:List Addr}(I:Inv X pins σ H s)(hch:∀b∈ch,(b∈X.ex\/X.s₀.heap.objs.size<=b)/\b≠X.env.locals/\(∀x c,X.env.cells.lookup x=some c->c≠b)/\∀p∈X.pn++pins,p.1≠b)(keep:∀b o,b≠X.env.locals->b∉X.fs->b∉ch->s.heap.get? b=some o->H b=none->h'.get? b=some o)(slot:∀b o,b≠X.env.locals->b∈X.fs->b∉ch->s.heap.get? b=some o->H b=none->∃sl,h'.get? b=some {o with slots:=sl})(free:∀b o,b∉ch->s.heap.get? b=some o->H b=none->H' b=none)(there:∀b o,b∉ch->s.heap.get? b=some o->∃o',h'.get? b=some o')(tups:∀b xs,H b=some (.tup xs)->H' b=some (.tup xs))(wJ:∀b o u,H b=some (.zZ o u)->H' b=some (.zZ o u))(yy:∀b ps,H b=some (.Ia ps)->∃more,H' b=some (.Ia (ps++more)))(ns:∀m,s.heap.Ns X.env.locals m->h'.Ns X.env.locals m)(hok:qE X.prog X.w H' h')(hg:AllBare g'):Inv X pins σ H' {s with heap:=h',gens:=g',drawn:=d',toks:=t'}:=by
 have Rz:∀b o,X.s₀.heap.get? b=some o->b≠X.env.locals:=λb o e=>Za (YZ (YQ e) I.ok.above)
 have NF:∀b o,X.s₀.heap.get? b=some o->b∉X.ex->b∉ch:=λb o e hx hb=>by
  rcases(hch b hb).1 with z|z
  ·exact hx z
  ·exact absurd (YZ (YQ e) z) (ZQ _)
 have cellK:∀x c,X.env.cells.lookup x=some c->∀v,s.heap.IsCell c v->h'.IsCell c v:=λx c e v ⟨o,ho,hd⟩=>by
  have LB:c∉ch:=λz=>(hch c z).2.2.1 x c e rfl
  by_cases hc:c∈X.fs
  ·obtain⟨sl,q⟩:=slot c o (I.IS x c e) hc LB ho (I.kr x c e)
   exact⟨_,q,hd⟩
  ·exact⟨o,keep c o (I.IS x c e) hc LB ho (I.kr x c e),hd⟩
 refine⟨I.ok,I.os,hg,⟨λb o e n hb hx=>?_,λb o e n hb hx=>?_,λb o e n hx=>?_,λb o e hx=>?_,λb xs e=>tups b xs (I.base.tups b xs e),λb o xs e=>wJ b o xs (I.base.wJ b o xs e),λb ps e=>?_⟩,?_,λx c e=>?_,?_,λx c e=>?_,λp hp=>?_,hok,I.len⟩
 ·exact keep b o (Rz b o e) hb (NF b o e hx) (I.base.keep b o e n hb hx) (I.base.free b o e n hx)
 ·obtain⟨sl,e1⟩:=I.base.slot b o e n hb hx
  obtain⟨Tw,e2⟩:=slot b _ (Rz b o e) hb (NF b o e hx) e1 (I.base.free b o e n hx)
  exact⟨Tw,e2⟩
 ·obtain⟨o',e1⟩:=I.base.there b o e hx
  exact free b o' (NF b o e hx) e1 (I.base.free b o e n hx)
 ·obtain⟨o',e1⟩:=I.base.there b o e hx
  exact there b o' (NF b o e hx) e1
 ·obtain⟨m1,e1⟩:=I.base.yy b ps e
  obtain⟨m2,e2⟩:=yy b _ e1
  exact⟨m1++m2,by rw[e2,Array.append_assoc]⟩
 ·obtain⟨m,hn,hl⟩:=I.loc
  refine⟨m,ns m hn,λi x v e1 e2 e3=>?_⟩
  obtain⟨u,r,l⟩:=hl i x v e1 e2 e3
  refine⟨u,r,?_⟩
  rcases l with l|⟨k,c,e,z⟩
  ·exact .inl l
  ·exact .inr ⟨k,c,e,cellK x c e _ z⟩
 ·obtain⟨v,z⟩:=I.cell x c e
  exact⟨v,cellK x c e v z⟩
 ·obtain⟨m,⟨o,_,_,ho,_⟩,_⟩:=I.loc
  exact free _ o (λz=>(hch _ z).2.1 rfl) ho I.free
 ·obtain⟨v,o,ho,hd⟩:=I.cell x c e
  exact free c o (λz=>(hch c z).2.2.1 x c e rfl) ho (I.kr x c e)
 ·obtain⟨e,n,ne,nf,d⟩:=I.pin p hp
  have LB:p.1∉ch:=λz=>(hch p.1 z).2.2.2 p hp rfl
  exact⟨keep p.1 p.2 ne nf LB e n,free p.1 p.2 LB e n,ne,nf,d⟩
theorem Inv.un{t':Nat}(I:Inv X pins σ H s)(u:Un X.fs [] H H' s.heap h')(hok:qE X.prog X.w H' h'):Inv X pins σ H' {s with heap:=h',toks:=t'}:=by
 obtain⟨m,⟨o,es,ep,ho,r⟩,_⟩:=id I.loc
 obtain⟨sl,hL⟩:=u.any ho I.free (by simp)
 exact I.step (g':=s.gens) (d':=s.drawn) (ch:=[]) (λ_ z=>nomatch z) (λb o _ hb _ e n=>u.keep b o e n hb (by simp)) (λb o _ hb _ e n=>u.slot b o e n hb (by simp)) (λb o _ e n=>u.free b o e n (by simp)) (λb o _ e=>u.there b o e (by simp)) u.tups u.wJ u.yy (λm' hm=>by
  obtain⟨o',es',Oa,ho',r'⟩:=hm
  rw[ho]at ho';cases ho'
  exact⟨_,es',Oa,hL,r'⟩) hok I.bare
theorem Inv.call{g':Array GenState}{t':Nat}{d':Drawn}{ch:List Addr}(I:Inv X pins σ H s)(u:Un (frs X.stack) ch H H' s.heap h')(hok:qE X.prog X.w H' h')(hg:AllBare g')(hch:∀b∈ch,(b∈X.ex\/X.s₀.heap.objs.size<=b)/\b≠X.env.locals/\(∀x c,X.env.cells.lookup x=some c->c≠b)/\∀p∈X.pn++pins,p.1≠b):Inv X pins σ H' {s with heap:=h',gens:=g',drawn:=d',toks:=t'}:=by
 obtain⟨m,⟨o,es,ep,ho,r⟩,_⟩:=id I.loc
 obtain⟨sl,hL⟩:=u.any ho I.free λz=>(hch _ z).2.1 rfl
 exact I.step (ch:=ch) hch (λb o hL hb hc e n=>u.keep b o e n (λz=>(Y7.mp (I.pG b z)).elim hL hb) hc) (λb o _ _ hc e n=>u.any e n hc) (λb o hc e n=>u.free b o e n hc) (λb o hc e=>u.there b o e hc) u.tups u.wJ u.yy (λm' hm=>by
  obtain⟨o',es',Oa,ho',r'⟩:=hm
  rw[ho]at ho';cases ho'
  exact⟨_,es',Oa,hL,r'⟩) hok hg
theorem Inv.turned{t':Nat}{it:Addr}(I:Inv X pins σ H s)(k:∀b o,b≠it->s.heap.get? b=some o->h'.get? b=some o)(hn:H it=none)(hL:it≠X.env.locals)(h1:it∈X.ex\/X.s₀.heap.objs.size<=it)(h2:∀x c,X.env.cells.lookup x=some c->c≠it)(h3:∀p∈X.pn++pins,p.1≠it):Inv X pins σ H {s with heap:=h',toks:=t'}:=by
 have LC:∀b u,H b=some u->b≠it:=λb u e z=>by rw[z,hn]at e;cases e
 refine I.step (g':=s.gens) (d':=s.drawn) (ch:=[it]) (λb hb=>?_) (λb o _ _ hc e _=>k b o (λz=>hc (by simp[z])) e) (λb o _ _ hc e _=>⟨o.slots,k b o (λz=>hc (by simp[z])) e⟩) (λ_ _ _ _ n=>n)
  (λb o hc e=>⟨o,k b o (λz=>hc (by simp[z])) e⟩) (λ_ _ e=>e) (λ_ _ _ e=>e) (λb ps e=>⟨#[],by rw[e];simp⟩) (λm hm=>?_) (λb u e=>?_) I.bare
 ·have e:b=it:=by simpa using hb
  subst e
  exact⟨h1,hL,h2,h3⟩
 ·obtain⟨o,es,ep,ho,r⟩:=hm
  exact⟨o,es,ep,k _ o (ZI hL) ho,r⟩
 ·refine(I.hok b u e).stay (λc v hc q=>k c v ?_ q) (λ_ q=>q) λ_ _ q=>q
  rcases hc with z|z
  ·rw[z];exact LC b u e
  ·exact LC c _ z
theorem Inv.tok(I:Inv X pins σ H s)(t:Nat):Inv X pins σ H {s with toks:=t}:=I.un (h':=s.heap) (t':=t) Un.refl I.hok
theorem Inv.kept{t':Nat}(I:Inv X pins σ H s)(k:∀b u,s.heap.get? b=some u->h'.get? b=some u):Inv X pins σ H {s with heap:=h',toks:=t'}:=I.un (Un.kept k) (I.hok.kept k)
theorem Inv.laid{a:Addr}{o:HO}{t':Nat}(I:Inv X pins σ H s)(k:∀b u,s.heap.get? b=some u->h'.get? b=some u)(hp:s.heap.objs.size<=a)(new:dj X.prog X.w (upd H a o) h' a o):Inv X pins σ (upd H a o) {s with heap:=h',toks:=t'}:=I.un (Un.laid k hp (I.hok.fresh hp)) (I.hok.laid k hp new)
theorem Inv.write{x e:Addr}{o:HO}{t':Nat}(I:Inv X pins σ H s)(mu:NC (H x))(he:e=x\/H e=some (.own x))(k:∀b u,b≠e->s.heap.get? b=some u->h'.get? b=some u)(K1:∃u,h'.get? e=some u)(new:dj X.prog X.w (upd H x o) h' x o):Inv X pins σ (upd H x o) {s with heap:=h',toks:=t'}:=I.un (Un.write mu he k K1) (I.hok.write mu he k K1 new)
theorem Inv.Bf{Ib:List (Addr×Obj)}(I:Inv X pins σ H s)(h:∀p∈Ib,s.heap.get? p.1=some p.2/\H p.1=none/\p.1≠X.env.locals/\p.1∉X.fs/\∀v,p.2.data≠.cell v):Inv X Ib σ H s :=
 ⟨I.ok,I.os,I.bare,I.base,I.loc,I.cell,I.free,I.kr,λp hp=>(Y3.mp hp).elim (λz=>I.pin p (Zp _ z)) (h p),I.hok,I.len⟩
theorem yz{N:List Str}(hN:N.Nodup){i j:Nat}{x:Str}(a:N[i]?=some x)(b:N[j]?=some x):i=j:=by
 obtain⟨h1,e1⟩:=YG.mp a
 obtain⟨h2,e2⟩:=YG.mp b
 exact(List.getElem_inj hN).mp (e1.trans e2.symm)
theorem pH{M:Model}{A:Around}{E:Value->Shared->Prop}{i:Nat}{x:Str}{v:V}{u:Value}{Q:Unit->Shared->Prop}(I:Inv X pins σ H s)(hN:X.N.Nodup)(hi:X.N[i]?=some x)(hx:Loc X.env.scope x)(r:RelV v u)(h:∀s',Inv X pins (σ.set i (some v)) H s'->(∃a,Heap.SameBut a s.heap s'.heap/\(a=X.env.locals\/X.env.cells.lookup x=some a))->Q () s')(hf:X.fn x=true\/X.env.scope.names.lookup x=some .local:=by first|exact .inl rfl|exact .inr rfl|assumption):wpAny M A (storeName X.env x u) Q E s:=by
 obtain⟨m,hn,hl⟩:=id I.loc
 have hcls:(X.env.scope.kind==.class||(X.env.scope.kind==.module&&X.env.locals != X.env.globals))=false:=by rw[I.ok.kind];rfl
 have LD:i<σ.length:=by rw[I.len];exact(YG.mp hi).1
 have IS:=I.IS
 have tracked:∀{a:Addr}{h':Heap},(∃o,s.heap.get? a=some o/\H a=none)->Heap.SameBut a s.heap h'->qE X.prog X.w H h':=λ{a h'} ha hs b ob e=>by
  obtain⟨_,_,hfree⟩:=ha
  refine(I.hok b ob e).stay (λc w' hc q=>(hs.2 c ?_).trans q) (λ_ q=>q) λ_ _ q=>q
  rintro rfl
  rcases hc with rfl|hc
  ·rw[hfree]at e;cases e
  ·rw[hfree]at hc;cases hc
 rcases hx with hk|hk
 ·refine wpAny_storeName_local hk hn (λh' hn' hs=>?_) hcls
  obtain⟨oL,_,_,Tz,_⟩:=id hn
  refine h _ ⟨I.ok,I.os,I.bare,⟨λb o e n hb hx=>?_,λb o e n hb hx=>?_,I.base.free,λb o e hx=>?_,I.base.tups,I.base.wJ,I.base.yy⟩,⟨_,hn',λj y v' e1 e2 e3=>?_⟩,λy c e=>?_,I.free,I.kr,λp hp=>?_,tracked ⟨oL,Tz,I.free⟩ hs,by simpa using I.len⟩ ⟨_,hs,.inl rfl⟩
  ·exact(hs.2 b (Za (YZ (YQ e) I.ok.above))).trans (I.base.keep b o e n hb hx)
  ·obtain⟨sl,e1⟩:=I.base.slot b o e n hb hx
   exact⟨sl,(hs.2 b (Za (YZ (YQ e) I.ok.above))).trans e1⟩
  ·obtain⟨o',e1⟩:=I.base.there b o e hx
   exact⟨o',(hs.2 b (Za (YZ (YQ e) I.ok.above))).trans e1⟩
  ·by_cases hj:j=i
   ·subst hj
    rw[hi]at e1;cases e1
    rw[List.getElem?_set_self LD]at e2
    cases e2
    exact⟨u,r,.inl ⟨hk,by simp⟩⟩
   ·rw[List.getElem?_set_ne (ZI hj)]at e2
    obtain⟨u',r',q⟩:=hl j y v' e1 e2 e3
    refine⟨u',r',?_⟩
    rcases q with ⟨k,e⟩|⟨k,c,e,z⟩
    ·refine .inl ⟨k,?_⟩
     have:y≠x:=λe=>hj (yz hN e1 (e▸hi))
     simp[this,e]
    ·exact .inr ⟨k,c,e,z.sameBut hs (IS y c e)⟩
  ·obtain⟨w',z⟩:=I.cell y c e
   exact⟨w',z.sameBut hs (IS y c e)⟩
  ·obtain⟨e,n,ne,nf,d⟩:=I.pin p hp
   exact⟨(hs.2 p.1 ne).trans e,n,ne,nf,d⟩
 ·have hfn:X.fn x=true:=by
   rcases hf with z|z
   ·exact z
   ·rw[z]at hk;cases hk
  obtain⟨c,hc⟩:=I.ok.has x (.inl hk)
  obtain⟨w',z⟩:=I.cell x c hc
  refine wpAny_storeName_cell I.ok.kind hk hc z (λh' hc' hs=>?_)
  obtain⟨oc,hoc,Ob⟩:=id z
  refine h {s with heap:=h'} ⟨I.ok,I.os,I.bare,⟨λb o e n hb hx=>?_,λb o e n hb hx=>?_,I.base.free,λb o e hx=>?_,I.base.tups,I.base.wJ,I.base.yy⟩,⟨m,hn.sameBut hs (ZI (IS x c hc)),λj y v' e1 e2 e3=>?_⟩,λy c' e=>?_,I.free,I.kr,λp hp=>?_,tracked ⟨oc,hoc,I.kr x c hc⟩ hs,by simpa using I.len⟩ ⟨c,hs,.inr hc⟩
  ·exact(hs.2 b (Za (YZ (YQ e) (I.ok.LA x c hfn hc)))).trans (I.base.keep b o e n hb hx)
  ·obtain⟨sl,e1⟩:=I.base.slot b o e n hb hx
   exact⟨sl,(hs.2 b (Za (YZ (YQ e) (I.ok.LA x c hfn hc)))).trans e1⟩
  ·obtain⟨o',e1⟩:=I.base.there b o e hx
   exact⟨o',(hs.2 b (Za (YZ (YQ e) (I.ok.LA x c hfn hc)))).trans e1⟩
  ·by_cases hj:j=i
   ·subst hj
    rw[hi]at e1;cases e1
    rw[List.getElem?_set_self LD]at e2
    cases e2
    exact⟨u,r,.inr ⟨.inl hk,c,hc,hc'⟩⟩
   ·rw[List.getElem?_set_ne (ZI hj)]at e2
    obtain⟨u',r',q⟩:=hl j y v' e1 e2 e3
    refine⟨u',r',?_⟩
    rcases q with q|⟨k,c',e,z'⟩
    ·exact .inl q
    ·refine .inr ⟨k,c',e,z'.sameBut hs ?_⟩
     rintro rfl
     exact hj (yz hN e1 (I.ok.inj _ _ _ e hc▸hi))
  ·by_cases hcc:c'=c
   ·subst hcc;exact⟨_,hc'⟩
   ·obtain⟨w2,z2⟩:=I.cell y c' e
    exact⟨w2,z2.sameBut hs hcc⟩
  ·obtain⟨e,n,ne,nf,d⟩:=I.pin p hp
   refine⟨(hs.2 p.1 ?_).trans e,n,ne,nf,d⟩
   intro q
   rw[q,hoc]at e
   have q':oc=p.2:=Y0 e
   exact d w' (by rw[←q'];exact Ob)
theorem yC{M:Model}{A:Around}{E:Value->Shared->Prop}{i:Nat}{x:Str}{v:V}{u:Value}{Q:Unit->Shared->Prop}(I:Inv X pins σ H s)(hN:X.N.Nodup)(hi:X.N[i]?=some x)(hx:Loc X.env.scope x)(r:RelV v u)(h:∀s',Inv X pins (σ.set i (some v)) H s'->Q () s')(hf:X.fn x=true\/X.env.scope.names.lookup x=some .local:=by first|exact .inl rfl|exact .inr rfl|assumption):wpAny M A (storeName X.env x u) Q E s :=
 pH I hN hi hx r (λs' I' _=>h s' I') hf
theorem Inv.Ic{s':Shared}{ch:List Addr}(I:Inv X pins σ H s)(ho:s'.os=s.os)(u:Un (frs X.stack) ch H H' s.heap s'.heap)(hok:qE X.prog X.w H' s'.heap)(hg:AllBare s'.gens)(hch:∀b∈ch,(b∈X.ex\/X.s₀.heap.objs.size<=b)/\b≠X.env.locals/\(∀x c,X.env.cells.lookup x=some c->c≠b)/\∀p∈X.pn++pins,p.1≠b):Inv X pins σ H' s':=by
 obtain⟨h',g',d',t',o'⟩:=s'
 have e:o'=s.os:=ho
 subst e
 exact I.call (g':=g') (t':=t') (d':=d') u hok hg hch
end
abbrev XK:=Value->Option Addr->Hp->Prop
abbrev St:=List (Option V)
abbrev VK:=V->Hp->Prop
abbrev TE:=St->Hp->VK->Prop
abbrev TT:=St->Hp->(Bool->Hp->Prop)->Prop
abbrev TA:=St->Hp->(List V->Hp->Prop)->Prop
structure Ends where
 nx:St->Hp->Prop
 rt:VK
 bk:St->Hp->Prop:=λ_ _=>False
 ct:St->Hp->Prop:=λ_ _=>False
abbrev TS:=Ends->St->Hp->Prop
def EP(X:Cx)(pins:List (Addr×Obj))(σ:St)(Q:VK)(u:Value)(s':Shared):Prop:=∃v H',Inv X pins σ H' s'/\RelV v u/\Q v H'
def TP(X:Cx)(pins:List (Addr×Obj))(σ:St)(Q:Bool->Hp->Prop)(b:Bool)(s':Shared):Prop:=∃H',Inv X pins σ H' s'/\Q b H'
def AP(X:Cx)(pins:List (Addr×Obj))(σ:St)(Q:List V->Hp->Prop)(us:List Value)(s':Shared):Prop:=∃vs H',Inv X pins σ H' s'/\Vals vs us/\Q vs H'
def SP(X:Cx)(pins:List (Addr×Obj))(D:Ends)(f:Flow)(s':Shared):Prop :=
 match f with
 | .next=>∃σ' H',Inv X pins σ' H' s'/\D.nx σ' H'
 | .brk=>∃σ' H',Inv X pins σ' H' s'/\D.bk σ' H'
 | .cont=>∃σ' H',Inv X pins σ' H' s'/\D.ct σ' H'
 | .ret u=>∃v σ' H',Inv X pins σ' H' s'/\RelV v u/\D.rt v H'
def PE(X:Cx)(e:Expr)(t:TE):Prop :=
 ∀(pins:List (Addr×Obj))(s:Shared)(σ:St)(H:Hp)(Q:VK),Inv X pins σ H s->t σ H Q->wpAny (model X.prog X.w) X.A (eval e X.env) (EP X pins σ Q) X.xe s
def PT(X:Cx)(e:Expr)(t:TT):Prop :=
 ∀(pins:List (Addr×Obj))(s:Shared)(σ:St)(H:Hp)(Q:Bool->Hp->Prop),Inv X pins σ H s->t σ H Q->wpAny (model X.prog X.w) X.A (isTrue e X.env (eval e X.env)) (TP X pins σ Q) X.xe s
def PW(X:Cx)(e:Expr)(t:TT):Prop :=
 ∀(whole:Sem Value)(pins:List (Addr×Obj))(s:Shared)(σ:St)(H:Hp)(Q:Bool->Hp->Prop),Inv X pins σ H s->t σ H Q->wpAny (model X.prog X.w) X.A (isTrue e X.env whole) (TP X pins σ Q) X.xe s
theorem PW.pt{X:Cx}{e:Expr}{t:TT}(h:PW X e t):PT X e t:=h _
def PA(X:Cx)(es:List Expr)(t:TA):Prop :=
 ∀(pos:Pos)(pins:List (Addr×Obj))(s:Shared)(σ:St)(H:Hp)(Q:List V->Hp->Prop),Inv X pins σ H s->t σ H Q->wpAny (model X.prog X.w) X.A (spliced (backTo pos (starEach es X.env))) (AP X pins σ Q) X.xe s
def PS(X:Cx)(st:Stmt)(t:TS):Prop :=
 ∀(pins:List (Addr×Obj))(s:Shared)(σ:St)(H:Hp)(D:Ends),Inv X pins σ H s->t D σ H->wpAny (model X.prog X.w) X.A (exec st X.env) (SP X pins D) X.xe s
def Bg(X:Cx)(st:List Stmt)(t:TS):Prop :=
 ∀(pins:List (Addr×Obj))(s:Shared)(σ:St)(H:Hp)(D:Ends),Inv X pins σ H s->t D σ H->wpAny (model X.prog X.w) X.A (execs st X.env) (SP X pins D) X.xe s
theorem bV{α:Type}{t:Sem α}{Q Q':α->Shared->Prop}{M:Model}{A:Around}{E:Value->Shared->Prop}{s:Shared}(h:wpAny M A t Q E s)(hQ:∀a s,Q a s->Q' a s):wpAny M A t Q' E s:=Zq h hQ λ_ _ x=>x
section
variable{X:Cx}
def Gn(i:Nat):TE:=λσ H Q=>∃v,σ[i]?=some (some v)/\Q v H
def tC(v:V):TE:=λ_ H Q=>Q v H
theorem IT{i:Nat}{x:Str}{pos:Pos}(hN:X.N[i]?=some x)(hv:N7 X.env.scope x)(hd:(x==("__debug__":Str))=false:=by decide)(hcd:(x==("__classdict__":Str))=false:=by decide):PE X (.Name x pos) (Gn i):=by
 intro pins s σ H Q I h
 obtain⟨v,e,h⟩:=h
 obtain⟨m,hn,hl⟩:=I.loc
 obtain⟨u,r,l⟩:=hl i x v hN e hv
 have fin:EP X pins σ Q u s:=⟨v,H,I,r,h⟩
 rcases l with ⟨hk,hm⟩|⟨hk,c,hc,hcell⟩
 ·exact wpAny_Name (wpAny_loadName_local I.ok.kind hk hn hm fin) hd
 ·rcases hk with hk|hk
  ·exact wpAny_Name (wpAny_loadName_cell I.ok.kind hk hc hcell fin) hd
  ·exact wpAny_Name (wpAny_loadName_free I.ok.kind hk hc hcell fin hcd) hd
theorem ao{i j pos}:PE X (.Constant (.int i) j pos) (tC (.int i)):=λ_ _ _ H _ I h=>wpAny_Constant_int ⟨.int i,H,I.tok _,⟨_,rfl⟩,h⟩
theorem jh{b j pos}:PE X (.Constant (.bool b) j pos) (tC (.bl b)):=λ_ _ _ H _ I h=>Constant_bool ⟨.bl b,H,I,rfl,h⟩
theorem cM{j pos}:PE X (.Constant .none j pos) (tC .non):=λ_ _ _ H _ I h=>Constant_none ⟨.non,H,I,rfl,h⟩
theorem av{x j pos}:PE X (.Constant (.str x) j pos) (tC (.str x)):=λ_ _ _ H _ I h=>Calls.Constant_str ⟨.str x,H,I.tok _,⟨_,rfl⟩,h⟩
def Gl(X:Cx)(x:Str):Prop:=X.env.kindOf x=some .globalImplicit
theorem wM{E:Value->Shared->Prop}{pins:List (Addr×Obj)}{s:Shared}{σ:St}{H:Hp}{x:Str}{u:Value}{pos:Pos}{Q:Value->Shared->Prop}(I:Inv X pins σ H s)(hg:Gl X x)(hm:X.mg x=some u)(h:Q u s)(hd:(x==("__debug__":Str))=false:=by decide):wpAny (model X.prog X.w) X.A (eval (.Name x pos) X.env) Q E s :=
 Calls.Name_function_global I.ok.kind hg (Calls.loadGlobal_global (by rw[I.ok.glob];exact I.mod.glob.keeps I.bk) hm h) hd
theorem pI{E:Value->Shared->Prop}{pins:List (Addr×Obj)}{s:Shared}{σ:St}{H:Hp}{x:Str}{u:Value}{pos:Pos}{Q:Value->Shared->Prop}(I:Inv X pins σ H s)(hg:Gl X x)(hm:X.mg x=none)(hv:bootBuiltins x=some u)(h:Q u s)(hn:x ≠ "__name__":=by decide)(hd:(x==("__debug__":Str))=false:=by decide):wpAny (model X.prog X.w) X.A (eval (.Name x pos) X.env) Q E s:=by
 obtain⟨mb,h1,h2⟩:=I.mod.blt
 exact Calls.Name_function_global I.ok.kind hg (Calls.loadGlobal_builtin (by rw[I.ok.glob];exact I.mod.glob.keeps I.bk) hm (by rw[I.ok.blt];exact h1.keeps I.bk) ((h2 x hn).trans hv) h) hd
theorem wN{x:Str}{v:V}{u:Value}{pos:Pos}(hg:Gl X x)(hm:X.mg x=some u)(r:RelV v u)(hd:(x==("__debug__":Str))=false:=by decide):PE X (.Name x pos) (tC v) :=
 λ_ _ _ H _ I h=>wM I hg hm ⟨v,H,I,r,h⟩ hd
theorem Gp{x:Str}{v:V}{u:Value}{pos:Pos}(hg:Gl X x)(hm:X.mg x=none)(hv:bootBuiltins x=some u)(r:RelV v u)(hn:x ≠ "__name__":=by decide)(hd:(x==("__debug__":Str))=false:=by decide):PE X (.Name x pos) (tC v) :=
 λ_ _ _ H _ I h=>pI I hg hm hv ⟨v,H,I,r,h⟩ hn hd
variable{a b:Expr}{ta tb:TE}{pos:Pos}
def PC(X:Cx)(op:CmpOp)(a b:Expr)(t:TE):Prop :=
 ∀(pins:List (Addr×Obj))(s:Shared)(σ:St)(H:Hp)(Q:VK),Inv X pins σ H s->t σ H Q->wpAny (model X.prog X.w) X.A (eval a X.env) (λv s₁=>wpAny (model X.prog X.w) X.A (eval b X.env) (λu s₂=>wpAny (model X.prog X.w) X.A (compareOp op v u) (EP X pins σ Q) X.xe s₂) X.xe s₁) X.xe s
theorem Du(b:Expr){op:CmpOp}(h:op≠.In)(h2:op≠.NotIn):behindInMarks op b=false:=by
 have e1:(op==CmpOp.In)=false:=by cases op<;>first|rfl|exact absurd rfl h
 have e2:(op==CmpOp.NotIn)=false:=by cases op<;>first|rfl|exact absurd rfl h2
 cases b<;>simp[behindInMarks,e1,e2]
def tB(t:TE):TT:=λσ H Q=>t σ H λx H1=>∃c,x=.bl c/\Q c H1
theorem IU{op:CmpOp}{t:TE}(h:PC X op a b t)(h1:behindInMarks op b=false:=by first|exact Du _ (by decide) (by decide)|rfl):PT X (.Compare a [op] [b] pos) (tB t):=by
 intro pins s σ H Q I hw
 refine wpAny_isTrue_Compare1 (bV (h pins s σ H _ I hw) λv s1 h1=>bV h1 λu s2 h2=>bV h2 λc s3 ⟨x,H1,I1,r1,q1⟩=>?_) h1
 obtain⟨d,rfl,q⟩:=q1
 cases r1
 exact wpAny_truthy_bool ⟨H1,I1,q⟩
theorem cG{e:Expr}{t:TE}(h:PE X e t)(he:∀whole,isTrue e X.env whole=(do let v ←whole;standAt e.pos;holding [v] (truthy v)):=by intro _;rfl):PT X e (tB t):=by
 intro pins s σ H Q I hw
 refine isTrue_plain (bV (h pins s σ H _ I hw) λv s1 ⟨x,H1,I1,r1,q1⟩=>?_) (he _)
 obtain⟨d,rfl,q⟩:=q1
 cases r1
 exact wpAny_truthy_bool ⟨H1,I1,q⟩
variable{tA NG:TT}{rest:List Expr}
def Oc(t u:TT):TT:=λσ H Q=>t σ H λc H1=>if c=true then u σ H1 Q else Q false H1
def TF(t u:TT):TT:=λσ H Q=>t σ H λc H1=>if c=true then Q true H1 else u σ H1 Q
def Od(t:TT):TT:=λσ H Q=>t σ H λc H1=>Q (!c) H1
theorem eY(ha:PT X a tA):PW X (.BoolOp .And [a] pos) tA:=by
 intro wh pins s σ H Q I h
 refine isTrue_and (bV (ha pins s σ H Q I h) λc s1 e=>?_)
 cases c with
 |true=>exact isTrue_and_nil e
 |false=>exact e
theorem fZ(ha:PT X a tA):PW X (.BoolOp .Or [a] pos) tA:=by
 intro wh pins s σ H Q I h
 refine isTrue_or (bV (ha pins s σ H Q I h) λc s1 e=>?_)
 cases c with
 |false=>exact isTrue_or_nil e
 |true=>exact e
theorem gH(ha:PT X a tA)(hb:PW X (.BoolOp .And (b::rest) pos) NG):PW X (.BoolOp .And (a::b::rest) pos) (Oc tA NG):=by
 intro wh pins s σ H Q I h
 refine isTrue_and (bV (ha pins s σ H _ I h) λc s1 ⟨H1,I1,q1⟩=>?_)
 cases c with
 |true=>exact hb wh pins s1 σ H1 Q I1 q1
 |false=>exact⟨H1,I1,q1⟩
theorem gu(ha:PT X a tA)(hb:PW X (.BoolOp .Or (b::rest) pos) NG):PW X (.BoolOp .Or (a::b::rest) pos) (TF tA NG):=by
 intro wh pins s σ H Q I h
 refine isTrue_or (bV (ha pins s σ H _ I h) λc s1 ⟨H1,I1,q1⟩=>?_)
 cases c with
 |true=>exact⟨H1,I1,q1⟩
 |false=>exact hb wh pins s1 σ H1 Q I1 q1
theorem dQ(ha:PT X a tA):PT X (.UnaryOp .Not a pos) (Od tA):=by
 intro pins s σ H Q I h
 exact isTrue_not (ha pins s σ H (λc H1=>Q (!c) H1) I h)
def LF(ta tb:TE):TE:=λσ H Q=>ta σ H λx H1=>∃c,x=.bl c/\if c=true then tb σ H1 Q else Q (.bl false) H1
def Oe(ta tb:TE):TE:=λσ H Q=>ta σ H λx H1=>∃c,x=.bl c/\if c=true then Q (.bl true) H1 else tb σ H1 Q
theorem z3{op}{t:TE}(h:PE X a t):PE X (.BoolOp op [a] pos) t:=λpins s σ H Q I hw=>BoolOp_one (h pins s σ H Q I hw)
theorem z4(ha:PE X a ta)(hb:PE X (.BoolOp .And (b::rest) pos) tb):PE X (.BoolOp .And (a::b::rest) pos) (LF ta tb):=by
 intro pins s σ H Q I h
 refine BoolOp_and (bV (ha pins s σ H _ I h) λv s1 ⟨x,H1,I1,r1,q1⟩=>?_)
 obtain⟨c,rfl,q1⟩:=q1
 cases r1
 refine wpAny_truthy_bool ?_
 cases c with
 |true=>exact hb pins s1 σ H1 Q I1 q1
 |false=>exact⟨.bl false,H1,I1,rfl,q1⟩
theorem LG(ha:PE X a ta)(hb:PE X (.BoolOp .Or (b::rest) pos) tb):PE X (.BoolOp .Or (a::b::rest) pos) (Oe ta tb):=by
 intro pins s σ H Q I h
 refine BoolOp_or (bV (ha pins s σ H _ I h) λv s1 ⟨x,H1,I1,r1,q1⟩=>?_)
 obtain⟨c,rfl,q1⟩:=q1
 cases r1
 refine wpAny_truthy_bool ?_
 cases c with
 |false=>exact hb pins s1 σ H1 Q I1 q1
 |true=>exact⟨.bl true,H1,I1,rfl,q1⟩
def TH(t:TT)(ta tb:TE):TE:=λσ H Q=>t σ H λc H1=>if c=true then ta σ H1 Q else tb σ H1 Q
theorem nJ{c:Expr}(hc:PT X c tA)(ha:PE X a ta)(hb:PE X b tb):PE X (.IfExp c a b pos) (TH tA ta tb):=by
 intro pins s σ H Q I h
 refine wpAny_IfExp (bV (hc pins s σ H _ I h) λd s1 ⟨H1,I1,q1⟩=>?_)
 cases d with
 |true=>exact ha pins s1 σ H1 Q I1 q1
 |false=>exact hb pins s1 σ H1 Q I1 q1
end
def aX(K:W.Frag)(H:Hp)(a:Addr)(xs:List V):Prop :=
 Rd H a (.lst xs)\/
  ∃(o:Obj)(its:Array Value)(n:Nat),K.lookup a=some o/\o.cls=.type "list"/\o.dict=none/\o.data=.seq its n/\its.size<=sizeLine/\Vals xs its.toList
def bU(K:W.Frag)(H:Hp)(a:Addr)(xs:List V):Prop :=
 Rd H a (.tup xs)\/
  ∃(o:Obj)(its:Array Value)(n:Nat),K.lookup a=some o/\o.cls=.type "tuple"/\o.data=.seq its n/\its.size<=sizeLine/\Vals xs its.toList
def Og:Value->Option V
 | .none=>some .non
 | .bool b=>some (.bl b)
 | .int i _=>some (.int i)
 | .str x _=>some (.str x)
 | .bytes b _=>some (.Df b)
 | .float b _=>some (.nH b)
 | .ref a=>some (.ref a)
 | .type n=>some (.ty n)
 |_=>none
theorem RelV.abs{x:V}{u:Value}(r:RelV x u):Og u=some x:=by
 cases x with
 |non=>cases r;rfl
 |bl _=>cases r;rfl
 |int _=>obtain⟨t,rfl⟩:=r;rfl
 |str _=>obtain⟨t,rfl⟩:=r;rfl
 |Df _=>obtain⟨t,rfl⟩:=r;rfl
 |nH _=>obtain⟨t,rfl⟩:=r;rfl
 |ref _=>cases r;rfl
 |ty _=>cases r;rfl
theorem RelV.inj{x y:V}{u:Value}(r:RelV x u)(q:RelV y u):x=y:=Y0 (r.abs.symm.trans q.abs)
theorem Vals.inj:∀{xs ys:List V}{us:List Value},Vals xs us->Vals ys us->xs=ys
 |_,_,_,.nil,.nil=>rfl
 |_,_,_,.cons r t,.cons r' t'=>by rw[r.inj r',Vals.inj t t']
section
variable{X:Cx}{pins:List (Addr×Obj)}{σ:St}{H:Hp}{s:Shared}{a:Addr}{xs ys:List V}
theorem aX.of{K:W.Frag}(h:H a=some (.lst xs)):aX K H a xs:=.inl (.inl h)
theorem bU.of{K:W.Frag}(h:H a=some (.tup xs)):bU K H a xs:=.inl (.inl h)
theorem Inv.list(I:Inv X pins σ H s)(h:aX X.K H a xs):∃its:List Value,Vals xs its/\PlainL s.heap a its.toArray/\xs.length<=sizeLine:=by
 rcases h with h|⟨o,its,n,hk,hc,hd,hs,hz,r⟩
 ·obtain⟨z,its,n,r,e⟩:=h.ok I.hok
  exact⟨its,r,⟨_,n,e,O,O,O⟩,z⟩
 ·refine⟨its.toList,r,⟨o,n,I.pF a o hk,hc,hd,by simpa using hs⟩,?_⟩
  have e:=r.length
  simp only[YX]at e
  omega
theorem Inv.tuple(I:Inv X pins σ H s)(h:bU X.K H a xs):∃its:List Value,Vals xs its/\IsTup s.heap a its.toArray/\xs.length<=sizeLine:=by
 rcases h with h|⟨o,its,n,hk,hc,hs,hz,r⟩
 ·obtain⟨z,its,r,p⟩:=h.ok I.hok
  exact⟨its,r,p,z⟩
 ·refine⟨its.toList,r,⟨o,I.pF a o hk,hc,n,by simpa using hs⟩,?_⟩
  have e:=r.length
  simp only[YX]at e
  omega
theorem Inv.yD(I:Inv X pins σ H s)(h:aX X.K H a xs)(h':aX X.K H a ys):xs=ys:=by
 obtain⟨its,r,⟨o,n,e,_,_,d⟩,_⟩:=I.list h
 obtain⟨its',r',⟨o',n',e',_,_,d'⟩,_⟩:=I.list h'
 rw[e]at e';cases e'
 rw[d]at d'
 injection d' with d1 _
 have:its=its':=by simpa using congrArg Array.toList d1
 subst this
 exact r.inj r'
theorem Inv.BY(I:Inv X pins σ H s)(h:bU X.K H a xs)(h':bU X.K H a ys):xs=ys:=by
 obtain⟨its,r,⟨o,e,_,n,d⟩,_⟩:=I.tuple h
 obtain⟨its',r',⟨o',e',_,n',d'⟩,_⟩:=I.tuple h'
 rw[e]at e';cases e'
 rw[d]at d'
 injection d' with d1 _
 have:its=its':=by simpa using congrArg Array.toList d1
 subst this
 exact r.inj r'
end
abbrev Cx.uS(X:Cx)(E:Value->Shared->Prop):Cx:={X with xe:=E}
abbrev Cx.K2(X:Cx):Cx:=X.uS λ_ _=>False
theorem Cx.Ok.uS{X:Cx}(ok:X.Ok)(E:Value->Shared->Prop):(X.uS E).Ok :=
 ⟨ok.mod,ok.kind,ok.glob,ok.blt,ok.above,ok.inj,ok.has,ok.LA,ok.hd,ok.frames,ok.stk,ok.Ry,ok.bs,ok.Dg,ok.BX,ok.Gm,ok.qR,ok.IQ⟩
theorem Cx.Ok.ku{X:Cx}{E:Value->Shared->Prop}(ok:(X.uS E).Ok):X.Ok :=
 ⟨ok.mod,ok.kind,ok.glob,ok.blt,ok.above,ok.inj,ok.has,ok.LA,ok.hd,ok.frames,ok.stk,ok.Ry,ok.bs,ok.Dg,ok.BX,ok.Gm,ok.qR,ok.IQ⟩
section
variable{X:Cx}{pins:List (Addr×Obj)}{σ:St}{H:Hp}{s:Shared}{E:Value->Shared->Prop}
theorem Inv.uS(I:Inv X pins σ H s)(E:Value->Shared->Prop):Inv (X.uS E) pins σ H s:=⟨I.ok.uS E,I.os,I.bare,I.base,I.loc,I.cell,I.free,I.kr,I.pin,I.hok,I.len⟩
theorem Inv.ku(I:Inv (X.uS E) pins σ H s):Inv X pins σ H s:=⟨I.ok.ku,I.os,I.bare,I.base,I.loc,I.cell,I.free,I.kr,I.pin,I.hok,I.len⟩
theorem SP.ku{D:Ends}{f:Flow}{s':Shared}(h:SP (X.uS E) pins D f s'):SP X pins D f s':=by
 cases f with
 |next=>obtain⟨σ',H',I,q⟩:=h;exact⟨σ',H',I.ku,q⟩
 |brk=>obtain⟨σ',H',I,q⟩:=h;exact⟨σ',H',I.ku,q⟩
 |cont=>obtain⟨σ',H',I,q⟩:=h;exact⟨σ',H',I.ku,q⟩
 |ret u=>obtain⟨v,σ',H',I,r,q⟩:=h;exact⟨v,σ',H',I.ku,r,q⟩
theorem Bg.K2{st:List Stmt}{t:TS}(h:Bg X.K2 st t):Bg X st t:=λpins s σ H D I hw =>
 Zq (h pins s σ H D (I.uS _) hw) (λ_ _ q=>q.ku) λ_ _ z=>False.elim z
end
section
variable{X:Cx}{st:Stmt}{rest:List Stmt}{t u:TS}{e:Expr}{te:TE}{pos:Pos}
def Ie:TS:=λD σ H=>D.nx σ H
def Dv(t u:TS):TS:=λD σ H=>t {D with nx:=u D} σ H
theorem aC:Bg X [] Ie:=λ_ _ σ H _ I h=>wpAny_execs_nil ⟨σ,H,I,h⟩
theorem ah(h1:PS X st t)(h2:Bg X rest u):Bg X (st::rest) (Dv t u):=by
 intro pins s σ H D I h
 refine wpAny_execs_cons (bV (h1 pins s σ H {D with nx:=u D} I h) λf s1 q=>?_)
 cases f with
 |next =>
  obtain⟨σ',H',I',q⟩:=q
  exact h2 pins s1 σ' H' D I' q
 |ret v=>exact q
 |brk=>exact q
 |cont=>exact q
theorem ak(h1:PS X st t):Bg X [st] t:=by
 intro pins s σ H D I h
 refine wpAny_execs_cons (bV (h1 pins s σ H D I h) λf s1 q=>?_)
 cases f with
 |next=>exact wpAny_execs_nil q
 |ret v=>exact q
 |brk=>exact q
 |cont=>exact q
theorem Inv.quiet{pins:List (Addr×Obj)}{σ:St}{H:Hp}{s:Shared}(I:Inv X pins σ H s):interactive X.env=false:=by simp[interactive,I.ok.kind]
def LH(te:TE):TS:=λD σ H=>te σ H λ_ H1=>D.nx σ H1
theorem cN(he:PE X e te)(hs:swapsWith e none pos.line X.env=pure false:=by rfl):PS X (.Expr e pos) (LH te):=by
 intro pins s σ H D I h
 exact wpAny_Expr_any (bV (he pins s σ H _ I h) λv s1 ⟨x,H1,I1,r1,q1⟩=>⟨σ,H1,I1,q1⟩) I.quiet hs
def Oh(te:TE):TS:=λD σ H=>te σ H D.rt
theorem aA(he:PE X e te):PS X (.Return (some e) pos) (Oh te):=by
 intro pins s σ H D I h
 exact wpAny_Return_some (bV (he pins s σ H _ I h) λv s1 ⟨x,H1,I1,r1,q1⟩=>⟨x,σ,H1,I1,r1,q1⟩)
def Dw(c:TT)(t u:TS):TS:=λD σ H=>c σ H λb H1=>if b=true then t D σ H1 else u D σ H1
theorem aN{c:Expr}{a b:List Stmt}{tc:TT}(hc:PT X c tc)(ha:Bg X a t)(hb:Bg X b u):PS X (.If c a b pos) (Dw tc t u):=by
 intro pins s σ H D I h
 refine wpAny_If (bV (hc pins s σ H _ I h) λd s1 ⟨H1,I1,q1⟩=>?_)
 cases d with
 |true=>exact ha pins s1 σ H1 D I1 q1
 |false=>exact hb pins s1 σ H1 D I1 q1
def IV:TS:=λ_ _ _=>False
theorem fS:PS X st IV:=λ_ _ _ _ _ _ h=>h.elim
end
abbrev TG:=V->St->Hp->(St->Hp->Prop)->Prop
abbrev Ig:=List V->St->Hp->(St->Hp->Prop)->Prop
def PG(X:Cx)(target:Expr)(t:TG):Prop :=
 ∀(pins:List (Addr×Obj))(s:Shared)(σ:St)(H:Hp)(v:V)(u:Value)(Q:St->Hp->Prop),Inv X pins σ H s->RelV v u->t v σ H Q->wpAny (model X.prog X.w) X.A (assign target X.env u) (λ_ s'=>∃σ' H',Inv X pins σ' H' s'/\Q σ' H') X.xe s
def LI(X:Cx)(ts:List Expr)(t:Ig):Prop :=
 ∀(pins:List (Addr×Obj))(s:Shared)(σ:St)(H:Hp)(vs:List V)(us:List Value)(Q:St->Hp->Prop),Inv X pins σ H s->Vals vs us->t vs σ H Q->wpAny (model X.prog X.w) X.A (assignInOrder ((assignEach ts X.env).map (·.2)) us) (λ_ s'=>∃σ' H',Inv X pins σ' H' s'/\Q σ' H') X.xe s
abbrev IW:=V->V->V->Hp->(Hp->Prop)->Prop
def LJ(X:Cx)(t:IW):Prop :=
 ∀(pins:List (Addr×Obj))(s:Shared)(σ:St)(H:Hp)(o i v:V)(ov iv u:Value)(Q:Hp->Prop),Inv X pins σ H s->RelV o ov->RelV i iv->RelV v u->t o i v H Q->wpAny (model X.prog X.w) X.A (setItem ov iv u) (λ_ s'=>∃H',Inv X pins σ H' s'/\Q H') X.xe s
section
variable{X:Cx}{pos:Pos}
def bA(i:Nat):TG:=λv σ H Q=>Q (σ.set i (some v)) H
theorem Gq{i:Nat}{x:Str}(hN:X.N.Nodup)(hi:X.N[i]?=some x)(hx:Loc X.env.scope x)(hf:X.fn x=true\/X.env.scope.names.lookup x=some .local:=by first|exact .inl rfl|exact .inr rfl|assumption):PG X (.Name x pos) (bA i):=by
 intro pins s σ H v u Q I r h
 exact wpAny_assign_Name (yC I hN hi hx r (λs' I'=>⟨_,H,I',h⟩) hf)
def Oi:Ig:=λvs σ H Q=>vs=[]/\Q σ H
def LK(t:TG)(u:Ig):Ig:=λvs σ H Q=>∃v r,vs=v::r/\t v σ H λσ' H'=>u r σ' H' Q
theorem Gr:LI X [] Oi:=by
 intro pins s σ H vs us Q I r h
 obtain⟨e,h⟩:=h
 subst e
 cases r
 exact assignInOrder_nil ⟨σ,H,I,h⟩
theorem yE{e:Expr}{es:List Expr}{t:TG}{u:Ig}(h1:PG X e t)(h2:LI X es u)(hs:(assignEach (e::es) X.env).map (·.2)=assign e X.env::(assignEach es X.env).map (·.2):=by rfl):LI X (e::es) (LK t u):=by
 intro pins s σ H vs us Q I r h
 obtain⟨v,vr,e1,h⟩:=h
 subst e1
 cases r with
 |cons r rr =>
  rw[hs]
  refine assignInOrder_cons (bV (h1 pins s σ H _ _ _ I r h) λ_ s1 ⟨σ1,H1,I1,q1⟩=>?_)
  exact h2 pins s1 σ1 H1 _ _ Q I1 rr q1
def LL(K:W.Frag)(n:Nat)(t:Ig):TG:=λv σ H Q=>∃a xs,v=.ref a/\bU K H a xs/\xs.length=n/\t xs σ H Q
theorem IX{es:List Expr}{k:Nat}{t:Ig}{n:Nat}(hc:X.calm=true)(h:LI X es t)(hn:(assignEach es X.env).length=n:=by rfl)(hst:(assignEach es X.env).findIdx? (·.1)=none:=by rfl):PG X (.Tuple es k pos) (LL X.K n t):=by
 intro pins s σ H v u Q I r hw
 obtain⟨a,xs,e1,hq,hl,hw⟩:=hw
 subst e1
 cases r
 obtain⟨its,rv,ht,hz⟩:=I.tuple hq
 refine assign_Tuple_tuple (I.ok.hd hc) ht (by simp[hn,←hl,rv.length]) hst λh' hx=>?_
 have I1:Inv X pins σ H {s with heap:=h'}:=I.kept (t':=s.toks) λb o e=>hx b o (Za (YQ e)) e
 exact h pins _ σ H xs _ Q I1 (by simpa using rv) hw
def Oj(to ti:TE)(t:IW):TG:=λv σ H Q=>to σ H λo H1=>ti σ H1 λi H2=>t o i v H2 λH3=>Q σ H3
theorem Dy{o i:Expr}{to ti:TE}{t:IW}(ho:PE X o to)(hi:PE X i ti)(hs:LJ X t)(ha:∀v,assign (.Subscript o i pos) X.env v=(do
   let ov ←holding [v] (eval o X.env)
   let iv ←holding [v,ov] (eval i X.env)
   standAt pos
   holding [v,ov,iv] (setItem ov iv v)
   release [v,ov,iv] []):=by intro _;rfl):PG X (.Subscript o i pos) (Oj to ti t):=by
 intro pins s σ H v u Q I r h
 rw[ha]
 refine YD (wpAny_holding (bV (ho pins s σ H _ I h) λov s1 ⟨x,H1,I1,r1,q1⟩=>?_))
 refine YD (wpAny_holding (bV (hi pins s1 σ H1 _ I1 q1) λiv s2 ⟨y,H2,I2,r2,q2⟩=>?_))
 refine YD (wpAny_standAt (YD (wpAny_holding (bV (hs pins s2 σ H2 x y v ov iv u _ I2 r1 r2 r q2) λ_ s3 ⟨H3,I3,q3⟩=>?_))))
 exact wpAny_release ⟨σ,H3,I3,q3⟩
def Dz(te:TE)(g:TG):TS:=λD σ H=>te σ H λx H1=>g x σ H1 D.nx
theorem DA{tg e:Expr}{te:TE}{g:TG}(he:PE X e te)(hg:PG X tg g)(hs:swapsWithSole [tg] e pos.line X.env=pure false:=by rfl)(hw:swappedStores [tg] e X.env=pure none:=by rfl)(h1:(assignEach [tg] X.env).map (·.2)=[assign tg X.env]:=by rfl):PS X (.Assign [tg] e pos) (Dz te g):=by
 intro pins s σ H D I h
 refine wpAny_Assign_stores (bV (he pins s σ H _ I h) λv s1 ⟨x,H1,I1,r1,q1⟩=>?_) hs hw
 rw[h1]
 exact bV (hg pins s1 σ H1 x v _ I1 r1 q1) λ_ s2 q=>q
theorem IY{i:Nat}{x:Str}{e:Expr}{te:TE}{pos':Pos}(hN:X.N.Nodup)(hi:X.N[i]?=some x)(hx:Loc X.env.scope x)(he:PE X e te)(hs:swapsWith e (some (.Name x pos')) pos.line X.env=pure false:=by rfl)(hf:X.fn x=true\/X.env.scope.names.lookup x=some .local:=by first|exact .inl rfl|exact .inr rfl|assumption):PS X (.Assign [.Name x pos'] e pos) (Dz te (bA i)):=by
 intro pins s σ H D I h
 refine wpAny_Assign_Name (bV (he pins s σ H _ I h) λv s1 ⟨y,H1,I1,r1,q1⟩=>?_) hs
 exact yC I1 hN hi hx r1 (λs2 I2=>⟨_,H1,I2,q1⟩) hf
end
section
variable{X:Cx}{pos:Pos}
def IZ(c:TT)(tb:TS):TS:=λD σ H=>∃W:Nat->St->Hp->Prop,(∃m,W m σ H)/\∀m σ H,W m σ H->c σ H λb H1=>if b=true then ∃N:St->Hp->Prop,(∀σ' H',N σ' H'->∃m',m'<m/\W m' σ' H')/\tb {D with nx:=N,ct:=N,bk:=D.nx} σ H1 else D.nx σ H1
theorem yF{c:Expr}{body:List Stmt}{tc:TT}{tb:TS}(hp:PassesOwn (model X.prog X.w) X.A X.env X.xe)(hc:PT X c tc)(hb:Bg X body tb):PS X (.While c body [] pos) (IZ tc tb):=by
 intro pins s σ H D I h
 obtain⟨W,⟨m0,w0⟩,turn⟩:=h
 refine wpAny_While (codeAny_whileLoop (λn s'=>∃σ' H',Inv X pins σ' H' s'/\W n σ' H') ?_ m0 ⟨σ,H,I,w0⟩)
 rintro n s1 ⟨σ1,H1,I1,w1⟩
 refine ZJ hp (bV (hc pins s1 σ1 H1 _ I1 (turn n σ1 H1 w1)) λb s2 ⟨H2,I2,q2⟩=>?_)
 cases b with
 |true =>
  obtain⟨N,hN,q2⟩:=q2
  rw[YA rfl]
  refine ZJ hp (bV (hb pins s2 σ1 H2 _ I2 q2) λf s3 q3=>?_)
  cases f with
  |next =>
   obtain⟨σ3,H3,I3,n3⟩:=q3
   obtain⟨m',hm,w3⟩:=hN σ3 H3 n3
   exact⟨m',hm,σ3,H3,I3,w3⟩
  |cont =>
   obtain⟨σ3,H3,I3,n3⟩:=q3
   obtain⟨m',hm,w3⟩:=hN σ3 H3 n3
   exact⟨m',hm,σ3,H3,I3,w3⟩
  |brk=>exact q3
  |ret v=>exact q3
 |false =>
  rw[Yz YN]
  exact wpAny_execs_nil ⟨σ1,H2,I2,q2⟩
end
structure It where
 go:Nat->Hp->Prop
 FU:Nat->Hp->V->Hp->Prop
 stop:Nat->Hp->Prop
def jq(X:Cx)(pins:List (Addr×Obj))(H:Hp)(b:Addr):Prop :=
 H b=none/\b≠X.env.locals/\b∉X.fs/\(b∈X.ex\/X.s₀.heap.objs.size<=b)/\(∀x c,X.env.cells.lookup x=some c->c≠b)/\∀p∈X.pn++pins,p.1≠b
theorem Inv.uT{X:Cx}{pins:List (Addr×Obj)}{σ:St}{H H':Hp}{s:Shared}{b:Addr}(I:Inv X pins σ H s)(hb:s.heap.objs.size<=b)(hn:H' b=none):jq X pins H' b:=by
 refine⟨hn,Nat.ne_of_gt (YZ I.lt hb),I.N9 hb,.inr (YU I.sz hb),λx c e z=>?_,λp hp z=>?_⟩
 ·obtain⟨v,q⟩:=I.cell x c e
  exact absurd (YZ q.lt (by rw[z];exact hb)) (ZQ _)
 ·exact absurd (YZ (YQ (I.pin p hp).1) (by rw[z];exact hb)) (ZQ _)
structure Turn(P:Program)(w:World)(K:W.Frag)(tg:Expr)(J:It)(fp:List Addr)(it:Addr)(tn:Nat->Heap->Prop):Prop where
 mem:it∈fp
 obj:∀i h,tn i h->∀b∈fp,∃o,h.get? b=some o/\∀v,o.data≠.cell v
 keep:∀i h h',tn i h->(∀b∈fp,∀o,h.get? b=some o->h'.get? b=some o)->tn i h'
 item:∀(X:Cx),X.prog=P->X.w=w->X.K=K->X.calm=true->∀(i:Nat)(pins:List (Addr×Obj))(s:Shared)(σ:St)(H:Hp)(E:Value->Shared->Prop),Inv X pins σ H s->(∀b∈fp,jq X pins H b)->tn i s.heap->J.go i H->wpAny (model P w) X.A (pyNext (.ref it)) (λr s1=>∃u,r=some u/\wpAny (model P w) X.A (letOwnedTupleGo tg (.ref it) u) (λ_ s2=>∃x H',Inv X pins σ H' s2/\RelV x u/\J.FU i H x H'/\tn (i+1) s2.heap/\∀b∈fp,H' b=none) E s1) E s
 done:∀(X:Cx),X.prog=P->X.w=w->X.K=K->X.calm=true->∀(i:Nat)(pins:List (Addr×Obj))(s:Shared)(σ:St)(H:Hp)(E:Value->Shared->Prop),Inv X pins σ H s->(∀b∈fp,jq X pins H b)->tn i s.heap->J.stop i H->wpAny (model P w) X.A (pyNext (.ref it)) (λr s1=>r=none/\Inv X pins σ H s1) E s
 self:∀(A:Around)(i:Nat)(s:Shared)(Q:Value->Shared->Prop)(E:Value->Shared->Prop),tn i s.heap->Q (.ref it) s->wpAny (model P w) A (pyIter (.ref it)) Q E s
abbrev TI:=St->Hp->(It->Hp->Prop)->Prop
def RA(X:Cx)(pins:List (Addr×Obj))(σ:St)(tg:Expr)(R:It->Hp->Prop)(itv:Value)(s2:Shared):Prop :=
 ∃(it:Addr)(fp:List Addr)(tn:Nat->Heap->Prop)(J:It)(H':Hp),itv=.ref it/\Inv X pins σ H' s2/\Turn X.prog X.w X.K tg J fp it tn/\tn 0 s2.heap/\(∀b∈fp,jq X pins H' b)/\R J H'
def PI(X:Cx)(tg iter:Expr)(wi:TI):Prop :=
 ∀(pins:List (Addr×Obj))(s:Shared)(σ:St)(H:Hp)(R:It->Hp->Prop),Inv X pins σ H s->wi σ H R->wpAny (model X.prog X.w) X.A (eval iter X.env) (λv s1=>wpAny (model X.prog X.w) X.A (pyIter v) (RA X pins σ tg R) X.xe s1) X.xe s
theorem yG{M:Model}{A:Around}{E:Value->Shared->Prop}{s:Shared}{tg:Expr}{it:Addr}{u:Value}{o:Obj}{n:String}{vs:Array Value}{Q:Unit->Shared->Prop}(ho:s.heap.get? it=some o)(hc:o.cls=.type n)(hd:o.data=.fields vs)(hn:["enumerate","zip","dict_itemiterator","dict_reverseitemiterator","odict_iterator","itertools.zip_longest","itertools.pairwise"].contains n=false)(hQ:Q () s):wpAny M A (letOwnedTupleGo tg (.ref it) u) Q E s:=by
 unfold letOwnedTupleGo
 cases tg<;>first
   |exact Y5 hQ
   | (cases u<;>first
       |exact Y5 hQ
       | (refine YD (wpAny_load ho ?_)
          rw[hc,hd]
          show wpAny M A (if (["enumerate","zip","dict_itemiterator","dict_reverseitemiterator","odict_iterator","itertools.zip_longest","itertools.pairwise"].contains n&&vs[0]?==some (rawInt _))=true then _ else _) Q E s
          rw[Yz (by intro h;rw[hn,Bool.false_and]at h;cases h)]
          exact Y5 hQ))
def K3(K:W.Frag)(a:Addr):It :=
 ⟨λi H=>∃xs x,aX K H a xs/\xs[i]?=some x,λi H x H'=>H'=H/\∀xs,aX K H a xs->xs[i]?=some x,λi H=>∃xs,aX K H a xs/\xs.length<=i⟩
def LM(K:W.Frag)(a:Addr):It :=
 ⟨λi H=>∃xs x,bU K H a xs/\xs[i]?=some x,λi H x H'=>H'=H/\∀xs,bU K H a xs->xs[i]?=some x,λi H=>∃xs,bU K H a xs/\xs.length<=i⟩
def Ih(lo:Int)(n:Nat):It:=⟨λi _=>i<n,λi H x H'=>H'=H/\x=.int (lo+i),λi _=>n<=i⟩
theorem BZ{P:Program}{w:World}{K:W.Frag}{tg:Expr}(a it:Addr):Turn P w K tg (K3 K a) [it] it (λi h=>h.IsListIter it a i) where
 mem:=by simp
 obj:=λi h st b hb=>by
  have e:b=it:=by simpa using hb
  subst e
  obtain⟨o,e,c,d⟩:=st
  exact⟨o,e,λv z=>by rw[d]at z;cases z⟩
 keep:=λi h h' st k=>st.at λo e=>k it (by simp) o e
 item:=by
  intro X hP hw hK hc i pins s σ H E I hf st hg
  subst hP hw hK
  obtain⟨xs,x,hq,hx⟩:=hg
  obtain⟨its,rv,p,hz⟩:=I.list hq
  obtain⟨u,hu,ru⟩:=rv.get hx
  obtain⟨f0,f1,f2,f3,f4,f5⟩:=hf it (by simp)
  refine wpAny_pyNext_list_item st p.isList (x:=u) (by simpa using hu) λh' st' sb=>?_
  have I1:Inv X pins σ H {s with heap:=h'}:=I.turned (t':=s.toks) (λb o hb e=>(sb.2 b hb).trans e) f0 f1 f3 f4 f5
  obtain⟨o,e,c,d⟩:=id st'
  exact⟨u,rfl,yG (s:={s with heap:=h'}) e c d (by decide) ⟨x,H,I1,ru,⟨rfl,λys hy=>by rw[I.yD hy hq];exact hx⟩,st',λb hb=>(hf b hb).1⟩⟩
 done:=by
  intro X hP hw hK hc i pins s σ H E I hf st hg
  subst hP hw hK
  obtain⟨xs,hq,hx⟩:=hg
  obtain⟨its,rv,p,hz⟩:=I.list hq
  obtain⟨f0,f1,f2,f3,f4,f5⟩:=hf it (by simp)
  have hl:=rv.length
  exact wpAny_pyNext_list_end (I.ok.hd hc) st p.isList (by simp;omega) λh' eb=>⟨rfl,I.turned (t':=s.toks) (λb o hb e=>eb b o hb e) f0 f1 f3 f4 f5⟩
 self:=λ_ _ _ _ _ st h=>wpAny_pyIter_listiter st h
theorem z7{P:Program}{w:World}{K:W.Frag}{tg:Expr}(a it:Addr):Turn P w K tg (LM K a) [it] it (λi h=>h.IsTupleIter it a i) where
 mem:=by simp
 obj:=λi h st b hb=>by
  have e:b=it:=by simpa using hb
  subst e
  obtain⟨o,e,c,d⟩:=st
  exact⟨o,e,λv z=>by rw[d]at z;cases z⟩
 keep:=λi h h' st k=>st.at λo e=>k it (by simp) o e
 item:=by
  intro X hP hw hK hc i pins s σ H E I hf st hg
  subst hP hw hK
  obtain⟨xs,x,hq,hx⟩:=hg
  obtain⟨its,rv,p,hz⟩:=I.tuple hq
  obtain⟨u,hu,ru⟩:=rv.get hx
  obtain⟨f0,f1,f2,f3,f4,f5⟩:=hf it (by simp)
  refine wpAny_pyNext_tuple_item st (show s.heap.IsTuple a its.toArray from p) (x:=u) (by simpa using hu) λh' st' sb=>?_
  have I1:Inv X pins σ H {s with heap:=h'}:=I.turned (t':=s.toks) (λb o hb e=>(sb.2 b hb).trans e) f0 f1 f3 f4 f5
  obtain⟨o,e,c,d⟩:=id st'
  exact⟨u,rfl,yG (s:={s with heap:=h'}) e c d (by decide) ⟨x,H,I1,ru,⟨rfl,λys hy=>by rw[I.BY hy hq];exact hx⟩,st',λb hb=>(hf b hb).1⟩⟩
 done:=by
  intro X hP hw hK hc i pins s σ H E I hf st hg
  subst hP hw hK
  obtain⟨xs,hq,hx⟩:=hg
  obtain⟨its,rv,p,hz⟩:=I.tuple hq
  obtain⟨f0,f1,f2,f3,f4,f5⟩:=hf it (by simp)
  have hl:=rv.length
  exact wpAny_pyNext_tuple_end (I.ok.hd hc) st (show s.heap.IsTuple a its.toArray from p) (by simp;omega) λh' eb=>⟨rfl,I.turned (t':=s.toks) (λb o hb e=>eb b o hb e) f0 f1 f3 f4 f5⟩
 self:=λ_ _ _ _ _ st h=>wpAny_pyIter_tupleiter st h
theorem Aa{P:Program}{w:World}{K:W.Frag}{tg:Expr}(it:Addr)(lo:Int)(n:Nat):Turn P w K tg (Ih lo n) [it] it (λi h=>IsRangeIter h it (lo+(i:Nat)*1) ((n:Int)-(i:Nat)) 1) where
 mem:=by simp
 obj:=λi h st b hb=>by
  have e:b=it:=by simpa using hb
  subst e
  exact⟨_,st,λv z=>by
   have z':Data.fields _=Data.cell v:=z
   cases z'⟩
 keep:=λi h h' st k=>k it (by simp) _ st
 item:=by
  intro X hP hw hK hc i pins s σ H E I hf st hg
  subst hP hw hK
  obtain⟨f0,f1,f2,f3,f4,f5⟩:=hf it (by simp)
  have W:=Walks.range (prog:=X.prog) (w:=X.w) (I.ok.hd hc) it lo 1 n
  refine W.item i s _ _ hg st λv h' tk hv st' kk=>?_
  obtain⟨t,rfl⟩:=hv
  have I1:Inv X pins σ H {s with heap:=h',toks:=tk}:=I.turned (λb o hb e=>kk b o (by simpa using hb) e) f0 f1 f3 f4 f5
  refine⟨_,rfl,yG (s:={s with heap:=h',toks:=tk}) (n:="range_iterator") st' rfl rfl (by decide) ⟨.int (lo+i),H,I1,⟨t,?_⟩,⟨rfl,rfl⟩,st',λb hb=>(hf b hb).1⟩⟩
  rw[Int.mul_one]
 done:=by
  intro X hP hw hK hc i pins s σ H E I hf st hg
  subst hP hw hK
  obtain⟨f0,f1,f2,f3,f4,f5⟩:=hf it (by simp)
  exact wpAny_pyNext_range_end (I.ok.hd hc) st (by have:n<=i:=hg;omega) λh' eb=>⟨rfl,I.turned (t':=s.toks) (λb o hb e=>eb b o hb e) f0 f1 f3 f4 f5⟩
 self:=λ_ _ _ _ _ st h=>wpAny_pyIter_rangeiter st h
section
variable{X:Cx}{tg:Expr}
def Ii(K:W.Frag)(tl:TE):TI:=λσ H R=>tl σ H λx H1=>∃a,x=.ref a/\(∃xs,aX K H1 a xs)/\R (K3 K a) H1
def LN(K:W.Frag)(tl:TE):TI:=λσ H R=>tl σ H λx H1=>∃a,x=.ref a/\(∃xs,bU K H1 a xs)/\R (LM K a) H1
theorem Gs{l:Expr}{tl:TE}(hl:PE X l tl):PI X tg l (Ii X.K tl):=by
 intro pins s σ H R I h
 refine bV (hl pins s σ H _ I h) λv s1 ⟨x,H1,I1,r1,q1⟩=>?_
 obtain⟨a,e,⟨xs,hq⟩,q⟩:=q1
 subst e
 cases r1
 obtain⟨its,rv,p,hz⟩:=I1.list hq
 refine wpAny_pyIter_list p.isList ?_
 refine⟨s1.heap.objs.size,[s1.heap.objs.size],_,_,H1,rfl,I1.kept (t':=s1.toks) λb o e=>YI _ e,BZ a _,⟨_,Zi _ rfl,rfl,rfl⟩,λb hb=>?_,q⟩
 have e:b=s1.heap.objs.size:=by simpa using hb
 subst e
 exact I1.uT (YB _) (I1.hok.fresh (YB _))
theorem Ja{l:Expr}{tl:TE}(hl:PE X l tl):PI X tg l (LN X.K tl):=by
 intro pins s σ H R I h
 refine bV (hl pins s σ H _ I h) λv s1 ⟨x,H1,I1,r1,q1⟩=>?_
 obtain⟨a,e,⟨xs,hq⟩,q⟩:=q1
 subst e
 cases r1
 obtain⟨its,rv,p,hz⟩:=I1.tuple hq
 refine wpAny_pyIter_tuple (show s1.heap.IsTuple a its.toArray from p) ?_
 refine⟨s1.heap.objs.size,[s1.heap.objs.size],_,_,H1,rfl,I1.kept (t':=s1.toks) λb o e=>YI _ e,z7 a _,⟨_,Zi _ rfl,rfl,rfl⟩,λb hb=>?_,q⟩
 have e:b=s1.heap.objs.size:=by simpa using hb
 subst e
 exact I1.uT (YB _) (I1.hok.fresh (YB _))
theorem DB{pins:List (Addr×Obj)}{σ:St}{H:Hp}{s:Shared}{R:It->Hp->Prop}{E:Value->Shared->Prop}{lo hi:Int}{t u v:Tok}{tk:Nat}(I:Inv X pins σ H s)(h1 : -(2 ^ 62)<=lo)(h2:lo<2 ^ 62)(h3 : -(2 ^ 62)<=hi)(h4:hi<2 ^ 62)(q:R (Ih lo (hi-lo).toNat) H):wpAny (model X.prog X.w) X.A (pyIter (.ref s.heap.objs.size)) (RA X pins σ tg R) E {s with heap:=s.heap.push {cls:=.type "range",data:=.fields #[.int lo t,.int hi u,.int 1 v]},toks:=tk}:=by
 refine wpAny_pyIter_range (IsRange.new ..) (small_one h1 h2 h3 h4) ?_
 have I1:Inv X pins σ H {s with heap:=s.heap.push {cls:=.type "range",data:=.fields #[.int lo t,.int hi u,.int 1 v]},toks:=tk}:=I.kept λb o e=>YI _ e
 refine⟨(s.heap.push {cls:=.type "range",data:=.fields #[.int lo t,.int hi u,.int 1 v]}).objs.size,[(s.heap.push {cls:=.type "range",data:=.fields #[.int lo t,.int hi u,.int 1 v]}).objs.size],_,_,H,rfl,I1.kept (t':=tk) λb o e=>YI _ e,Aa _ lo (hi-lo).toNat,?_,λb hb=>?_,q⟩
 ·have e1:lo+((0:Nat):Int)*1=lo:=by simp
  have e2:(((hi-lo).toNat:Nat):Int)-((0:Nat):Int)=Builtin.Range.rangeSize lo hi 1:=by rw[rangeSize_one];split<;>omega
  show IsRangeIter _ _ (lo+((0:Nat):Int)*1) ((((hi-lo).toNat:Nat):Int)-((0:Nat):Int)) 1
  rw[e1,e2]
  exact Zi _ rfl
 ·have e:b=(s.heap.push {cls:=.type "range",data:=.fields #[.int lo t,.int hi u,.int 1 v]}).objs.size:=by simpa using hb
  subst e
  exact I1.uT (YB _) (I1.hok.fresh (YB _))
def LO(ta:TA):TI:=λσ H R=>ta σ H λvs H1=>∃j:Int,vs=[.int j]/\-(2 ^ 62)<=j/\j<2 ^ 62/\R (Ih 0 j.toNat) H1
theorem fD{a:Expr}{ta:TA}{p pos:Pos}(hg:Gl X "range")(hm:X.mg "range"=none)(ha:PA X [a] ta)(hs:starEach [a] X.env=[(false,eval a X.env)]:=by rfl):PI X tg (.Call (.Name "range" p) [a] [] pos) (LO ta):=by
 intro pins s σ H R I h
 refine Call_ (pI I hg hm boot_range (ZH (bV (ha pos pins s σ H _ I h) λus s1 ⟨vs,H1,I1,r1,q1⟩=>?_) hs rfl))
 obtain⟨j,e,q1,q2,q⟩:=q1
 subst e
 cases r1 with
 |cons r rr =>
  cases rr
  obtain⟨t,rfl⟩:=r
  exact call_range_1 (DB I1 (by omega) (by omega) q1 q2 (by simpa using q))
def Ol(wi:TI)(g:TG)(tb:TS):TS:=λD σ H=>wi σ H λJ H1=>∃W:Nat->Nat->St->Hp->Prop,(∃m,W 0 m σ H1)/\∀i m σ H,W i m σ H->(J.stop i H/\D.nx σ H)\/(J.go i H/\∃N:St->Hp->Prop,(∀σ' H',N σ' H'->∃m',m'<m/\W (i+1) m' σ' H')/\∀x H',J.FU i H x H'->g x σ H' λσ2 H2=>tb {D with nx:=N,ct:=N,bk:=D.nx} σ2 H2)
def pJ(fp:List Addr)(h:Heap):List (Addr×Obj):=fp.filterMap λb=>(h.get? b).map λo=>(b,o)
theorem fE{fp:List Addr}{h:Heap}{b:Addr}{o:Obj}(hb:b∈fp)(e:h.get? b=some o):(b,o)∈pJ fp h:=List.mem_filterMap.mpr ⟨b,hb,by rw[e];rfl⟩
theorem B0{fp:List Addr}{h:Heap}{p:Addr×Obj}(hp:p∈pJ fp h):p.1∈fp/\h.get? p.1=some p.2:=by
 obtain⟨b,hb,e⟩:=List.mem_filterMap.mp hp
 cases q:h.get? b with
 |none=>rw[q]at e;cases e
 |some o =>
  rw[q]at e
  have e':(b,o)=p:=Y0 e
  subst e'
  exact⟨hb,q⟩
theorem Inv.pinned{pins:List (Addr×Obj)}{σ:St}{H:Hp}{s:Shared}{fp:List Addr}(I:Inv X pins σ H s)(hf:∀b∈fp,jq X pins H b)(ho:∀b∈fp,∃o,s.heap.get? b=some o/\∀v,o.data≠.cell v):Inv X (pins++pJ fp s.heap) σ H s :=
 I.Bf λp hp=>(Y3.mp hp).elim (λz=>I.pin p (Y4 _ z)) λz=>by
  obtain⟨hb,e⟩:=B0 z
  obtain⟨f0,f1,f2,_⟩:=hf p.1 hb
  obtain⟨o,e',d⟩:=ho p.1 hb
  rw[e]at e';cases e'
  exact⟨e,f0,f1,f2,d⟩
theorem Inv.kB{pins pl:List (Addr×Obj)}{σ:St}{H:Hp}{s:Shared}(I:Inv X (pins++pl) σ H s):Inv X pins σ H s:=I.Bf λp hp=>I.pin p (Y4 _ (Zp _ hp))
theorem dR{iter:Expr}{body:List Stmt}{wi:TI}{g:TG}{tb:TS}{pos:Pos}(hp:PassesOwn (model X.prog X.w) X.A X.env X.xe)(hc:X.calm=true)(hi:PI X tg iter wi)(hg:PG X tg g)(hb:Bg X body tb)(hs:∀x,foldedSetIterable iter X.env x=pure x:=by intro _;rfl):PS X (.For tg iter body [] pos) (Ol wi g tb):=by
 intro pins s σ H D I h
 refine wpAny_For (bV (hi pins s σ H _ I h) λv s1 h1=>bV h1 λitv s2 h2=>?_) hs
 obtain⟨it,fp,tn,J,H2,e,I2,T,st2,f2,W,⟨m0,w0⟩,turn⟩:=h2
 subst e
 have sP:∀{H':Hp},(∀b∈fp,H' b=none)->∀b∈fp,jq X pins H' b:=λhn b hb=>⟨hn b hb,(f2 b hb).2⟩
 refine codeAny_forLoop_any (λn s'=>∃i σ' H',Inv X pins σ' H' s'/\tn i s'.heap/\(∀b∈fp,H' b=none)/\W i n σ' H') ?_ m0 ⟨0,σ,H2,I2,st2,λb hb=>(f2 b hb).1,w0⟩
 rintro n s3 ⟨i,σ3,H3,I3,st3,RB,w3⟩
 rcases turn i n σ3 H3 w3 with ⟨stop,qn⟩|⟨go,N,hN,step⟩
 ·refine ZJ hp (bV (T.done X rfl rfl rfl hc i pins s3 σ3 H3 X.xe I3 (sP RB) st3 stop) λr s4 ⟨hr,I4⟩=>?_)
  subst hr
  exact wpAny_execs_nil ⟨σ3,H3,I4,qn⟩
 ·refine ZJ hp (bV (T.item X rfl rfl rfl hc i pins s3 σ3 H3 X.xe I3 (sP RB) st3 go) λr s4 ⟨u,hr,h4⟩=>?_)
  subst hr
  refine ZJ hp (bV h4 λ_ s5 ⟨x,H5,I5,r5,y5,Om,TJ⟩=>?_)
  have TL:=I5.pinned (sP TJ) (T.obj _ _ Om)
  refine ZJ hp (bV (hg _ s5 σ3 H5 x u _ TL r5 (step x H5 y5)) λ_ s6 ⟨σ6,H6,I6,q6⟩=>?_)
  refine ZJ hp (bV (hb _ s6 σ6 H6 _ I6 q6) λf s7 q7=>?_)
  have again:∀{σ7:St}{H7:Hp},Inv X (pins++pJ fp s5.heap) σ7 H7 s7->N σ7 H7->∃m,m<n/\∃i σ' H',Inv X pins σ' H' s7/\tn i s7.heap/\(∀b∈fp,H' b=none)/\W i m σ' H':=λ{σ7 H7} I7 n7=>by
   obtain⟨m',hm,w7⟩:=hN σ7 H7 n7
   refine⟨m',hm,i+1,σ7,H7,I7.kB,T.keep _ _ _ Om λb hb o e=>(I7.pin (b,o) (Y4 _ (Y4 _ (fE hb e)))).1,λb hb=>?_,w7⟩
   obtain⟨o,e,d⟩:=T.obj _ _ Om b hb
   exact(I7.pin (b,o) (Y4 _ (Y4 _ (fE hb e)))).2.1
  cases f with
  |next=>obtain⟨σ7,H7,I7,n7⟩:=q7;exact again I7 n7
  |cont=>obtain⟨σ7,H7,I7,n7⟩:=q7;exact again I7 n7
  |brk=>obtain⟨σ7,H7,I7,q7⟩:=q7;exact⟨σ7,H7,I7.kB,q7⟩
  |ret v=>obtain⟨x7,σ7,H7,I7,r7,q7⟩:=q7;exact⟨x7,σ7,H7,I7.kB,r7,q7⟩
end
theorem gI{K:W.Frag}{a:Addr}{xs:List V}{g:TG}{tb:TS}{D:Ends}{σ:St}{H:Hp}(Pv:Nat->St->Hp->Prop)(h0:Pv 0 σ H)(hl:∀i σ H,i<=xs.length->Pv i σ H->aX K H a xs)(hs:∀i x σ H,xs[i]?=some x->Pv i σ H->g x σ H λσ2 H2=>tb {D with nx:=Pv (i+1),ct:=Pv (i+1),bk:=D.nx} σ2 H2)(hd:∀σ H,Pv xs.length σ H->D.nx σ H):∃W:Nat->Nat->St->Hp->Prop,(∃m,W 0 m σ H)/\∀i m σ H,W i m σ H->((K3 K a).stop i H/\D.nx σ H)\/((K3 K a).go i H/\∃N:St->Hp->Prop,(∀σ' H',N σ' H'->∃m',m'<m/\W (i+1) m' σ' H')/\∀x H',(K3 K a).FU i H x H'->g x σ H' λσ2 H2=>tb {D with nx:=N,ct:=N,bk:=D.nx} σ2 H2):=by
 refine⟨λi m σ H=>m=xs.length-i/\i<=xs.length/\Pv i σ H,⟨xs.length,by simp,Zd _,h0⟩,?_⟩
 rintro i m σ H ⟨rfl,hi,p⟩
 have q:=hl i σ H hi p
 by_cases hlt:i<xs.length
 ·refine .inr ⟨⟨xs,xs[i],q,by simp[hlt]⟩,Pv (i+1),λσ' H' p'=>⟨xs.length-(i+1),by omega,rfl,hlt,p'⟩,λx H' y=>?_⟩
  obtain⟨e,y⟩:=y
  subst e
  exact hs i x σ _ (y xs q) p
 ·have e:i=xs.length:=by omega
  subst e
  exact .inl ⟨⟨xs,q,YB _⟩,hd σ H p⟩
theorem Gu{K:W.Frag}{a:Addr}{xs:List V}{g:TG}{tb:TS}{D:Ends}{σ:St}{H:Hp}(Pv:Nat->St->Hp->Prop)(h0:Pv 0 σ H)(hl:∀i σ H,i<=xs.length->Pv i σ H->bU K H a xs)(hs:∀i x σ H,xs[i]?=some x->Pv i σ H->g x σ H λσ2 H2=>tb {D with nx:=Pv (i+1),ct:=Pv (i+1),bk:=D.nx} σ2 H2)(hd:∀σ H,Pv xs.length σ H->D.nx σ H):∃W:Nat->Nat->St->Hp->Prop,(∃m,W 0 m σ H)/\∀i m σ H,W i m σ H->((LM K a).stop i H/\D.nx σ H)\/((LM K a).go i H/\∃N:St->Hp->Prop,(∀σ' H',N σ' H'->∃m',m'<m/\W (i+1) m' σ' H')/\∀x H',(LM K a).FU i H x H'->g x σ H' λσ2 H2=>tb {D with nx:=N,ct:=N,bk:=D.nx} σ2 H2):=by
 refine⟨λi m σ H=>m=xs.length-i/\i<=xs.length/\Pv i σ H,⟨xs.length,by simp,Zd _,h0⟩,?_⟩
 rintro i m σ H ⟨rfl,hi,p⟩
 have q:=hl i σ H hi p
 by_cases hlt:i<xs.length
 ·refine .inr ⟨⟨xs,xs[i],q,by simp[hlt]⟩,Pv (i+1),λσ' H' p'=>⟨xs.length-(i+1),by omega,rfl,hlt,p'⟩,λx H' y=>?_⟩
  obtain⟨e,y⟩:=y
  subst e
  exact hs i x σ _ (y xs q) p
 ·have e:i=xs.length:=by omega
  subst e
  exact .inl ⟨⟨xs,q,YB _⟩,hd σ H p⟩
theorem lJ{lo:Int}{n:Nat}{g:TG}{tb:TS}{D:Ends}{σ:St}{H:Hp}(Pv:Nat->St->Hp->Prop)(h0:Pv 0 σ H)(hs:∀i σ H,i<n->Pv i σ H->g (.int (lo+i)) σ H λσ2 H2=>tb {D with nx:=Pv (i+1),ct:=Pv (i+1),bk:=D.nx} σ2 H2)(hd:∀σ H,Pv n σ H->D.nx σ H):∃W:Nat->Nat->St->Hp->Prop,(∃m,W 0 m σ H)/\∀i m σ H,W i m σ H->((Ih lo n).stop i H/\D.nx σ H)\/((Ih lo n).go i H/\∃N:St->Hp->Prop,(∀σ' H',N σ' H'->∃m',m'<m/\W (i+1) m' σ' H')/\∀x H',(Ih lo n).FU i H x H'->g x σ H' λσ2 H2=>tb {D with nx:=N,ct:=N,bk:=D.nx} σ2 H2):=by
 refine⟨λi m σ H=>m=n-i/\i<=n/\Pv i σ H,⟨n,by simp,Zd _,h0⟩,?_⟩
 rintro i m σ H ⟨rfl,hi,p⟩
 by_cases hlt:i<n
 ·refine .inr ⟨hlt,Pv (i+1),λσ' H' p'=>⟨n-(i+1),by omega,rfl,hlt,p'⟩,λx H' y=>?_⟩
  obtain⟨e,y⟩:=y
  subst e y
  exact hs i σ _ hlt p
 ·have e:i=n:=by omega
  subst e
  exact .inl ⟨YB _,hd σ H p⟩
abbrev R2:=V->V->Hp->VK->Prop
def lT(X:Cx)(f:Value->Value->Sem Value)(r:R2):Prop :=
 ∀(pins:List (Addr×Obj))(s:Shared)(σ:St)(H:Hp)(x y:V)(v u:Value)(Q:VK),Inv X pins σ H s->RelV x v->RelV y u->r x y H Q->wpAny (model X.prog X.w) X.A (f v u) (EP X pins σ Q) X.xe s
def fz(X:Cx)(f:Value)(r:List V->Hp->VK->Prop):Prop :=
 ∀(pins:List (Addr×Obj))(s:Shared)(σ:St)(H:Hp)(xs:List V)(us:List Value)(Q:VK),Inv X pins σ H s->Vals xs us->r xs H Q->wpAny (model X.prog X.w) X.A (call f us) (EP X pins σ Q) X.xe s
def FW(r:R2)(ta tb:TE):TE:=λσ H Q=>ta σ H λx H1=>tb σ H1 λy H2=>r x y H2 Q
def rI(C:Int->Int->Prop)(g:Int->Int->V):R2:=λx y H Q=>∃i j,x=.int i/\y=.int j/\C i j/\Q (g i j) H
def Gv(g:Int->Int->V):R2:=λx y H Q=>∃i j,x=.int i/\y=.int j/\Q (g i j) H
section
variable{X:Cx}{a b c:Expr}{ta tb tc:TE}{pos:Pos}
theorem Jb(ha:PE X a ta)(hb:PE X b tb){pins:List (Addr×Obj)}{s:Shared}{σ:St}{H:Hp}{R:V->V->Hp->Prop}(I:Inv X pins σ H s)(h:ta σ H λx H1=>tb σ H1 λy H2=>R x y H2){Q:Value->Shared->Prop}{f:Value->Value->Sem Value}(hf:∀v u s2 x y H2,Inv X pins σ H2 s2->RelV x v->RelV y u->R x y H2->wpAny (model X.prog X.w) X.A (f v u) Q X.xe s2):wpAny (model X.prog X.w) X.A (eval a X.env) (λv s₁=>wpAny (model X.prog X.w) X.A (eval b X.env) (λu s₂=>wpAny (model X.prog X.w) X.A (f v u) Q X.xe s₂) X.xe s₁) X.xe s:=by
 refine bV (ha pins s σ H _ I h) λv s1 ⟨x,H1,I1,r1,q1⟩=>?_
 refine bV (hb pins s1 σ H1 _ I1 q1) λu s2 ⟨y,H2,I2,r2,q2⟩=>?_
 exact hf v u s2 x y H2 I2 r1 r2 q2
theorem aE{op:Operator}{r:R2}(ho:lT X (binaryOp op) r)(ha:PE X a ta)(hb:PE X b tb):PE X (.BinOp a op b pos) (FW r ta tb):=by
 intro pins s σ H Q I h
 exact wpAny_BinOp (Jb ha hb I h λv u s2 x y H2 I2 rx ry q=>ho pins s2 σ H2 x y v u Q I2 rx ry q)
theorem NH{f:Value->Value->Sem Value}{C:Int->Int->Prop}{g:Int->Int->Int}(rule:∀(i j:Int)(t u:Tok)(s:Shared)(Q:Value->Shared->Prop)(E:Value->Shared->Prop),C i j->Q (.int (g i j) s.toks) {s with toks:=s.toks+1}->wpAny (model X.prog X.w) X.A (f (.int i t) (.int j u)) Q E s):lT X f (rI C λi j=>.int (g i j)):=by
 intro pins s σ H x y v u Q I rx ry h
 obtain⟨i,j,rfl,rfl,hc,q⟩:=h
 obtain⟨t,rfl⟩:=rx
 obtain⟨t',rfl⟩:=ry
 exact rule i j t t' s _ _ hc ⟨.int (g i j),H,I.tok _,⟨_,rfl⟩,q⟩
theorem LP{f:Value->Value->Sem Value}{g:Int->Int->Int}(rule:∀(i j:Int)(t u:Tok)(s:Shared)(Q:Value->Shared->Prop)(E:Value->Shared->Prop),Q (.int (g i j) s.toks) {s with toks:=s.toks+1}->wpAny (model X.prog X.w) X.A (f (.int i t) (.int j u)) Q E s):lT X f (Gv λi j=>.int (g i j)):=by
 intro pins s σ H x y v u Q I rx ry h
 obtain⟨i,j,rfl,rfl,q⟩:=h
 obtain⟨t,rfl⟩:=rx
 obtain⟨t',rfl⟩:=ry
 exact rule i j t t' s _ _ ⟨.int (g i j),H,I.tok _,⟨_,rfl⟩,q⟩
theorem Gw{f:Value->Value->Sem Value}{g:Int->Int->Bool}(rule:∀(i j:Int)(t u:Tok)(s:Shared)(Q:Value->Shared->Prop)(E:Value->Shared->Prop),Q (.bool (g i j)) s->wpAny (model X.prog X.w) X.A (f (.int i t) (.int j u)) Q E s):lT X f (Gv λi j=>.bl (g i j)):=by
 intro pins s σ H x y v u Q I rx ry h
 obtain⟨i,j,rfl,rfl,q⟩:=h
 obtain⟨t,rfl⟩:=rx
 obtain⟨t',rfl⟩:=ry
 exact rule i j t t' s _ _ ⟨.bl (g i j),H,I,rfl,q⟩
def Oo(i j:Int):Prop:=0<j/\j<1073741824
def Oq(i j:Int):Prop:=0<=j/\j<=1000000/\i.natAbs<2 ^ 64
def Gx(i j:Int):Prop:=(-(2 ^ 64)<i/\i<2 ^ 64)\/(-(2 ^ 64)<j/\j<2 ^ 64)
theorem Gx.ok{i j:Int}(h:Gx i j):IntMulOk i j:=by
 rcases h with ⟨h1,h2⟩|⟨h1,h2⟩
 ·exact .of_left (intBits_le_64 h1 h2)
 ·exact .of_right (intBits_le_64 h1 h2)
theorem bX:lT X (binaryOp .Add) (Gv λi j=>.int (i+j)):=LP λ_ _ _ _ _ _ _ q=>add_int q
theorem Ab:lT X (binaryOp .Sub) (Gv λi j=>.int (i-j)):=LP λ_ _ _ _ _ _ _ q=>sub_int q
theorem gJ:lT X (binaryOp .Mult) (rI Gx λi j=>.int (i*j)):=NH λ_ _ _ _ _ _ _ hc q=>mul_int q hc.ok
theorem jr:lT X (binaryOp .FloorDiv) (rI Oo λi j=>.int (i / j)):=NH λi j _ _ _ _ _ hc q=>by
 have h1:(0:Int)<j:=hc.1
 have h2:j<1073741824:=hc.2
 exact floordiv_int (by omega) (by rw[Int.fdiv_eq_ediv_of_nonneg i (by omega)];exact q) (.inl (PyProof.noPylong_small (by omega)))
theorem bM:lT X (binaryOp .Mod) (rI (λ_ j=>0<j) λi j=>.int (i % j)):=NH λi j _ _ _ _ _ hc q=>by
 have h1:(0:Int)<j:=hc
 exact mod_int' (by omega) (by rw[Int.fmod_eq_emod_of_nonneg i (by omega)];exact q)
theorem DC:lT X (binaryOp .Pow) (rI Oq λi j=>.int (i ^ j.toNat)):=NH λ_ _ _ _ _ _ _ hc q=>pow_int_small hc.1 hc.2.1 hc.2.2 q
end
def LQ:V->V->Bool
 | .non,.non=>true | .non,.int _=>true | .int _,.non=>true | .non,.bl _=>true | .bl _,.non=>true | .non,.str _=>true | .str _,.non=>true
 | .int _,.int _=>true | .bl _,.bl _=>true | .str _,.str _=>true | .Df _,.Df _=>true
 | .int _,.str _=>true | .str _,.int _=>true | .bl _,.str _=>true | .str _,.bl _=>true
 |_,_=>false
def TM:R2:=λx y H Q=>LQ x y=true/\Q (.bl (decide (x=y))) H
def TN:R2:=λx y H Q=>LQ x y=true/\Q (.bl (!decide (x=y))) H
theorem Bh{i j:Int}:decide (V.int i=V.int j)=(i==j):=by
 rw[Zu]
 simp
theorem DE{i j:Bool}:decide (V.bl i=V.bl j)=(i==j):=by
 rw[Zu]
 simp
theorem Bj{i j:Str}:decide (V.str i=V.str j)=(i==j):=by
 rw[Zu]
 simp
theorem Bk{i j:Array UInt8}:decide (V.Df i=V.Df j)=(i.toList==j.toList):=by
 rw[Zu]
 cases i
 cases j
 simp
section
variable{X:Cx}{a b c:Expr}{ta tb tc:TE}{pos:Pos}
theorem bg{pins:List (Addr×Obj)}{σ:St}{H:Hp}{s:Shared}{Q:VK}{k k':Bool}(I:Inv X pins σ H s)(q:Q (.bl k) H)(e:k=k'):EP X pins σ Q (.bool k') s:=by
 subst e
 exact⟨.bl k,H,I,O,q⟩
theorem bB:lT X (compareOp .Eq) TM:=by
 intro pins s σ H x y v u Q I rx ry h
 obtain⟨hs,q⟩:=h
 cases x with
 |non =>
  cases rx
  cases y with
  |non=>cases ry;exact PySem.EqNone.eq_none_none (bg I q (by simp))
  |bl j=>cases ry;exact PySem.EqNone.eq_none_bool (bg I q (by simp))
  |int j=>obtain⟨t',rfl⟩:=ry;exact PySem.EqNone.eq_none_int (bg I q (by simp))
  |str j=>obtain⟨t',rfl⟩:=ry;exact PySem.EqNone.eq_none_str (bg I q (by simp))
  |_=>exact absurd (show false=true from hs) YN
 |bl i =>
  cases rx
  cases y with
  |non=>cases ry;exact PySem.EqNone.eq_bool_none (bg I q (by simp))
  |bl j=>cases ry;exact eq_bool (bg I q DE)
  |str j=>obtain⟨t',rfl⟩:=ry;exact PySem.EqMixed.eq_bool_str (bg I q (by simp))
  |_=>exact absurd (show false=true from hs) YN
 |int i =>
  obtain⟨t,rfl⟩:=rx
  cases y with
  |non=>cases ry;exact PySem.EqNone.eq_int_none (bg I q (by simp))
  |int j=>obtain⟨t',rfl⟩:=ry;exact eq_int (bg I q Bh)
  |str j=>obtain⟨t',rfl⟩:=ry;exact PySem.EqMixed.eq_int_str (bg I q (by simp))
  |_=>exact absurd (show false=true from hs) YN
 |str i =>
  obtain⟨t,rfl⟩:=rx
  cases y with
  |non=>cases ry;exact PySem.EqNone.eq_str_none (bg I q (by simp))
  |bl j=>cases ry;exact PySem.EqMixed.eq_str_bool (bg I q (by simp))
  |int j=>obtain⟨t',rfl⟩:=ry;exact PySem.EqMixed.eq_str_int (bg I q (by simp))
  |str j=>obtain⟨t',rfl⟩:=ry;exact eq_str (bg I q Bj)
  |_=>exact absurd (show false=true from hs) YN
 |Df i =>
  obtain⟨t,rfl⟩:=rx
  cases y with
  |Df j=>obtain⟨t',rfl⟩:=ry;exact W.eq_bytes (bg I q Bk)
  |_=>exact absurd (show false=true from hs) YN
 |_=>cases y<;>exact absurd (show false=true from hs) YN
theorem DF:lT X (compareOp .NotEq) TN:=by
 intro pins s σ H x y v u Q I rx ry h
 obtain⟨hs,q⟩:=h
 cases x with
 |non =>
  cases rx
  cases y with
  |non=>cases ry;exact PySem.EqNone.ne_none_none (bg I q (by simp))
  |bl j=>cases ry;exact PySem.EqNone.ne_none_bool (bg I q (by simp))
  |int j=>obtain⟨t',rfl⟩:=ry;exact PySem.EqNone.ne_none_int (bg I q (by simp))
  |str j=>obtain⟨t',rfl⟩:=ry;exact PySem.EqNone.ne_none_str (bg I q (by simp))
  |_=>exact absurd (show false=true from hs) YN
 |bl i =>
  cases rx
  cases y with
  |non=>cases ry;exact PySem.EqNone.ne_bool_none (bg I q (by simp))
  |bl j=>cases ry;exact ne_bool (bg I q (congrArg not DE))
  |str j=>obtain⟨t',rfl⟩:=ry;exact PySem.EqMixed.ne_bool_str (bg I q (by simp))
  |_=>exact absurd (show false=true from hs) YN
 |int i =>
  obtain⟨t,rfl⟩:=rx
  cases y with
  |non=>cases ry;exact PySem.EqNone.ne_int_none (bg I q (by simp))
  |int j=>obtain⟨t',rfl⟩:=ry;exact ne_int (bg I q (congrArg not Bh))
  |str j=>obtain⟨t',rfl⟩:=ry;exact PySem.EqMixed.ne_int_str (bg I q (by simp))
  |_=>exact absurd (show false=true from hs) YN
 |str i =>
  obtain⟨t,rfl⟩:=rx
  cases y with
  |non=>cases ry;exact PySem.EqNone.ne_str_none (bg I q (by simp))
  |bl j=>cases ry;exact PySem.EqMixed.ne_str_bool (bg I q (by simp))
  |int j=>obtain⟨t',rfl⟩:=ry;exact PySem.EqMixed.ne_str_int (bg I q (by simp))
  |str j=>obtain⟨t',rfl⟩:=ry;exact ne_str (bg I q (congrArg not Bj))
  |_=>exact absurd (show false=true from hs) YN
 |Df i =>
  obtain⟨t,rfl⟩:=rx
  cases y with
  |Df j=>obtain⟨t',rfl⟩:=ry;exact W.ne_bytes (bg I q (congrArg not Bk))
  |_=>exact absurd (show false=true from hs) YN
 |_=>cases y<;>exact absurd (show false=true from hs) YN
theorem yH:lT X (compareOp .Lt) (Gv λi j=>.bl (decide (i<j))):=Gw λ_ _ _ _ _ _ _ q=>lt_int q
theorem Ij:lT X (compareOp .LtE) (Gv λi j=>.bl (decide (i<=j))):=Gw λ_ _ _ _ _ _ _ q=>le_int q
theorem sQ:lT X (compareOp .Gt) (Gv λi j=>.bl (decide (j<i))):=Gw λ_ _ _ _ _ _ _ q=>gt_int q
theorem LR:lT X (compareOp .GtE) (Gv λi j=>.bl (decide (j<=i))):=Gw λ_ _ _ _ _ _ _ q=>ge_int q
theorem cH:lT X (compareOp .In) (λx y H Q=>∃i j,x=.str i/\y=.str j/\Q (.bl (!(Builtin.Str.occurrences j i 0 j.length 1).isEmpty)) H):=by
 intro pins s σ H x y v u Q I rx ry h
 obtain⟨i,j,rfl,rfl,q⟩:=h
 obtain⟨t,rfl⟩:=rx
 obtain⟨t',rfl⟩:=ry
 exact in_str (bg I q rfl)
theorem sR:lT X (compareOp .Is) (λx y H Q=>y=.non/\Q (.bl (decide (x=.non))) H):=by
 intro pins s σ H x y v u Q I rx ry h
 obtain⟨rfl,q⟩:=h
 cases ry
 refine is_none_gen (bg I q ?_)
 cases x<;>first
  | (cases rx;rfl)
  | (obtain⟨t,rfl⟩:=rx;rfl)
theorem wO:lT X (compareOp .IsNot) (λx y H Q=>y=.non/\Q (.bl (!decide (x=.non))) H):=by
 intro pins s σ H x y v u Q I rx ry h
 obtain⟨rfl,q⟩:=h
 cases ry
 refine isnot_none_gen (bg I q ?_)
 cases x<;>first
  | (cases rx;rfl)
  | (obtain⟨t,rfl⟩:=rx;rfl)
theorem DG(b:Expr){op:CmpOp}(h:op≠.In:=by decide)(h2:op≠.NotIn:=by decide):behindInMarks op b=false:=by
 have e1:(op==CmpOp.In)=false:=by cases op<;>first|rfl|exact absurd rfl h
 have e2:(op==CmpOp.NotIn)=false:=by cases op<;>first|rfl|exact absurd rfl h2
 cases b<;>simp[behindInMarks,e1,e2]
theorem Bl{op:CmpOp}{r:R2}(ho:lT X (compareOp op) r)(ha:PE X a ta)(hb:PE X b tb)(hm:behindInMarks op b=false):PE X (.Compare a [op] [b] pos) (FW r ta tb):=by
 intro pins s σ H Q I h
 exact wpAny_Compare1 (Jb ha hb I h λv u s2 x y H2 I2 rx ry q=>ho pins s2 σ H2 x y v u Q I2 rx ry q) hm
def Ik(t:TE):TT:=λσ H Q=>t σ H λx H'=>∃k,x=.bl k/\Q k H'
theorem c7{op:CmpOp}{r:R2}(ho:lT X (compareOp op) r)(ha:PE X a ta)(hb:PE X b tb)(hm:behindInMarks op b=false):PT X (.Compare a [op] [b] pos) (Ik (FW r ta tb)):=by
 intro pins s σ H Q I h
 refine wpAny_isTrue_Compare1 (bV (ha pins s σ H _ I h) λv s1 ⟨x,H1,I1,r1,q1⟩=>bV (hb pins s1 σ H1 _ I1 q1) λu s2 ⟨y,H2,I2,r2,q2⟩ =>
  bV (ho pins s2 σ H2 x y v u _ I2 r1 r2 q2) λc s3 ⟨z,H3,I3,r3,k,e,q3⟩=>?_) hm
 subst e
 cases r3
 exact wpAny_truthy_bool ⟨H3,I3,q3⟩
theorem pK:(sizeLine:Nat)<2 ^ 63:=by rw[sizeLine_eq];decide
theorem bQ:lT X (binaryOp .Add) (λx y H Q=>∃i j,x=.str i/\y=.str j/\i.length+j.length<=sizeLine/\Q (.str (i++j)) H):=by
 intro pins s σ H x y v u Q I rx ry h
 obtain⟨i,j,rfl,rfl,hz,q⟩:=h
 obtain⟨t,rfl⟩:=rx
 obtain⟨t',rfl⟩:=ry
 exact add_str (λt' tk=>⟨.str (i++j),H,I.tok _,⟨_,rfl⟩,q⟩) hz
theorem vals1{x:V}{us:List Value}(r:Vals [x] us):∃u,us=[u]/\RelV x u:=by
 cases r with
 |cons r1 r2=>cases r2;exact⟨_,rfl,r1⟩
theorem vals2{x y:V}{us:List Value}(r:Vals [x,y] us):∃u w',us=[u,w']/\RelV x u/\RelV y w':=by
 cases r with
 |cons r1 r2 =>
  cases r2 with
  |cons r3 r4=>cases r4;exact⟨_,_,rfl,r1,r3⟩
theorem vH:fz X (.type "int") (λxs H Q=>(∃i,xs=[.int i]/\Q (.int i) H)\/∃k,xs=[.bl k]/\Q (.int (if k then 1 else 0)) H):=by
 intro pins s σ H xs us Q I r h
 rcases h with ⟨i,rfl,q⟩|⟨k,rfl,q⟩
 ·obtain⟨u,rfl,t,rfl⟩:=vals1 r
  exact call_int_int ⟨.int i,H,I,⟨_,rfl⟩,q⟩
 ·obtain⟨u,rfl,r1⟩:=vals1 r
  cases r1
  exact call_int_bool ⟨.int (if k then 1 else 0),H,I.tok _,⟨_,rfl⟩,q⟩
theorem DH:fz X (.builtin "ord") (λxs H Q=>∃x,xs=[.str x]/\x.length=1/\Q (.int (x.cps.getD 0 0:Nat)) H):=by
 intro pins s σ H xs us Q I r h
 obtain⟨x,rfl,hz,q⟩:=h
 obtain⟨u,rfl,t,rfl⟩:=vals1 r
 exact ord_of_one hz ⟨.int _,H,I.tok _,⟨_,rfl⟩,q⟩
end
structure Ac(h:Heap)(x dx C:Addr)(mA:Str->Option Value):Prop where
 obj:h.get? x=some (W.instObj C dx)
 ns:h.Ns1 dx mA
 ne:dx≠x
theorem B3{h:Heap}{dx:Addr}{mA:Str->Option Value}(n:h.Ns1 dx mA):∃od,h.get? dx=some od/\∀name,W.lookIn name od=some (mA name):=by
 obtain⟨o,es,ep,ho,hd,hk,_,hm⟩:=n
 refine⟨o,ho,λname=>?_⟩
 have e:=hm name
 unfold nsFind findBy at e
 rw[←Array.find?_toList]at e
 unfold W.lookIn
 rw[hd]
 dsimp only
 split
 ·rename_i y q
  rw[q]at e
  exact congrArg some e
 ·rename_i q
  rw[q]at e
  have a:es.toList.any (·.refKey)=false:=by
   rw[List.any_eq_false]
   intro y hy
   obtain⟨z,t,hkey⟩:=hk y (Array.mem_toList_iff.mp hy)
   simp[DictEntry.refKey,hkey]
  have a':¬es.toList.any (·.refKey)=true:=by rw[a];exact YN
  rw[Yz a']
  exact congrArg some e
theorem Ac.look{h:Heap}{x dx C:Addr}{mA:Str->Option Value}(I:Ac h x dx C mA):∃od,W.InstAt h x (W.instObj C dx) C (some od)/\∀name,W.lookIn name od=some (mA name) :=
 let ⟨od,ho,hl⟩:=B3 I.ns
 ⟨od,⟨I.obj,rfl,rfl,ho⟩,hl⟩
section
variable{prog:Program}{w:World}{A:Around}{E:Value->Shared->Prop}{s:Shared}{K:W.Frag}{x dx C f:Addr}{mA:Str->Option Value}{name:Str}{v:Value}
theorem get_map{expr:Bool}{Q:Value->Shared->Prop}(X:K.In s.heap)(I:Ac s.heap x dx C mA)(hg:W.plainGet K C name=true)(hh:W.hasDictIn K C=true)(ha:W.findIn K (.ref C) name=some none)(hv:mA name=some v)(hv':W.handedIn v=true)(h:Q v {s with toks:=s.toks+1}):wpAny (model prog w) A (getAttr (.ref x) name expr) Q E s:=by
 obtain⟨od,J,hl⟩:=I.look
 exact W.get_value X J (W.plainGet_of hg).1 (W.findObj_own hh ha rfl (by rw[hl,hv])) hv' h
theorem DI{pl:Sem Bool}{Q:Value×List Value->Shared->Prop}(X:K.In s.heap)(I:Ac s.heap x dx C mA)(hg:W.plainGet K C name=true)(hf:W.findIn K (.ref C) name=some (some (.ref f)))(ht:W.isFn K (.ref f)=true)(hv:mA name=none)(h:Q (.ref f,[.ref x]) s):wpAny (model prog w) A (getMethod (.ref x) name pl) Q E s:=by
 obtain⟨od,J,hl⟩:=I.look
 exact W.method_fn X J (W.plainGet_of hg).1 (W.plainGet_of hg).2 hf (beq_iff_eq.mp ht) (by show(W.lookIn name od).map (·.isSome)=some false;rw[hl,hv];rfl) h
theorem Gy{ns:List Str}{Q:Unit->Shared->Prop}(X:K.In s.heap)(I:Ac s.heap x dx C mA)(hs:W.findIn K (.ref C) "__setattr__"=some (some (.builtin "object.__setattr__")))(hp:W.plainOver K C=true)(ht:W.takerIn K C name=some none)(hh:W.hasDictIn K C=true)(hw:PySem.Within mA ns)(hsz:ns.length<=sizeLine)(h:∀h',Ac h' x dx C (λy=>if y=name then some v else mA y)->Heap.SameBut dx s.heap h'->Q () {s with heap:=h',toks:=s.toks+2}):wpAny (model prog w) A (setAttr (.ref x) name v) Q E s:=by
 obtain⟨od,J,hl⟩:=I.look
 refine W.set_plain X J hs (W.osa_open (s:={s with toks:=s.toks+1}) (r:=none) X J hp ht λb=>?_)
 obtain⟨cd,hc,hd'⟩:=W.any_some hh
 have hx:s.heap.get? x=some ⟨.ref C,some dx,.plain,#[]⟩:=I.obj
 refine YD (Y5 (YD (YD (wpAny_loadPart hx (YD (W.Looks.here (s:={s with toks:=s.toks+1}) (W.looks_clsIn X hc) ?_))))))
 rw[hd']
 refine Y5 (a:=some dx) (YD (Y5 (YD ?_)))
 refine wpAny_nsSet1 (s:={s with toks:=s.toks+1}) I.ns λh' hn2 hs2=>?_
 obtain⟨oD,esD,Yn,TQ,TR,TU⟩:=hn2.count (PySem.Within.cons name v hw)
 refine YD (wpAny_lookBehind TQ (by rw[TR];exact pastItsLine_dict (YU TU (by rw[YY];omega))) ?_)
 exact Y5 (h _ ⟨(hs2.2 _ (ZI I.ne)).trans I.obj,hn2,I.ne⟩ hs2)
theorem DJ{R:Result->Shared->Prop}{vs:List Value}{kw:List (Str×Value)}(X:K.In s.heap)(hm:W.makesIn K C=true)(hi:W.findIn K (.ref C) "__init__"=some (some (.ref f)))(hf:W.typeIn K (.ref f)=some (.type "function"))(h:codeAny (model prog w) (A.under (.builtin "type.__call__" ⟨.ref C::vs,kw⟩)) (.call (.ref f) ⟨.ref (s.heap.objs.size+1)::vs,kw⟩) (W.InitBack (s.heap.objs.size+1) R)
   {s with heap:=(s.heap.push W.emptyDict).push (W.instObj C s.heap.objs.size)}):codeAny (model prog w) A (.call (.ref C) ⟨vs,kw⟩) R s:=by
 obtain⟨hh,g,d,t,os⟩:=s
 exact W.make_core (W.makes_of X hm) (W.looks_findIn X hi) (λself=>W.bind_fn X self hf) (.inl rfl) h
end
def lU(f:Str)(v:V):List (Str×V)->List (Str×V)
 |[]=>[(f,v)]
 | (g,x)::r=>if g=f then (g,v)::r else (g,x)::lU f v r
theorem qF(f g:Str)(v:V):∀fs:List (Str×V),(lU f v fs).lookup g=if g=f then some v else fs.lookup g
 |[]=>by
  show List.lookup g [(f,v)]=_
  by_cases h:g=f
  ·have hb:(g==f)=true:=beq_iff_eq.mpr h
   simp only[List.lookup,hb,YA h]
  ·have hb:(g==f)=false:=ZV.mpr h
   simp only[List.lookup,hb,Yz h]
 | (k,x)::r=>by
  have ih:=qF f g v r
  rw[show lU f v ((k,x)::r)=(if k=f then (k,v)::r else (k,x)::lU f v r) from rfl]
  by_cases hk:k=f
  ·rw[YA hk]
   by_cases h:g=k
   ·have hb:(g==k)=true:=beq_iff_eq.mpr h
    simp only[List.lookup,hb,YA (h.trans hk)]
   ·have hb:(g==k)=false:=ZV.mpr h
    simp only[List.lookup,hb,Yz (λe:g=f=>h (e.trans hk.symm))]
  ·rw[Yz hk]
   by_cases h:g=k
   ·have hb:(g==k)=true:=beq_iff_eq.mpr h
    simp only[List.lookup,hb,Yz (λe:g=f=>hk (h.symm.trans e))]
   ·have hb:(g==k)=false:=ZV.mpr h
    simp only[List.lookup,hb]
    exact ih
theorem pL(f:Str)(v:V):∀fs:List (Str×V),f∈(lU f v fs).map (·.1)/\∀g,g∈fs.map (·.1)->g∈(lU f v fs).map (·.1)
 |[]=>⟨by simp[lU],λg h=>by simp at h⟩
 | (k,x)::r=>by
  obtain⟨i1,i2⟩:=pL f v r
  rw[show lU f v ((k,x)::r)=(if k=f then (k,v)::r else (k,x)::lU f v r) from rfl]
  by_cases hk:k=f
  ·rw[YA hk]
   subst hk
   exact⟨by simp,λg h=>by simpa using h⟩
  ·rw[Yz hk]
   refine⟨?_,λg h=>?_⟩
   ·rw[Zl]
    exact YS _ i1
   ·rw[Zl]at h⊢
    rcases Y7.mp h with e|e
    ·exact Y7.mpr (.inl e)
    ·exact YS _ (i2 g e)
theorem qG(f:Str)(v:V):∀fs:List (Str×V),(lU f v fs).length<=fs.length+1
 |[]=>by simp[lU]
 | (k,x)::r=>by
  have ih:=qG f v r
  rw[show lU f v ((k,x)::r)=(if k=f then (k,v)::r else (k,x)::lU f v r) from rfl]
  by_cases hk:k=f
  ·rw[YA hk,YY,YY];omega
  ·rw[Yz hk,YY,YY];omega
theorem nI.some_of{v:V}{o:Option Value}(r:nI (some v) o):∃u,o=some u/\RelV v u:=by
 cases o with
 |none=>exact(show False from r).elim
 |some u=>exact⟨u,rfl,r⟩
theorem nI.none_of{o:Option Value}(r:nI none o):o=none:=by
 cases o with
 |none=>rfl
 |some u=>exact(show False from r).elim
theorem B4{v:V}{u:Value}(r:RelV v u):W.handedIn u=true:=by
 cases v with
 |non=>cases(show u=Value.none from r);rfl
 |bl b=>cases(show u=Value.bool b from r);rfl
 |int i=>obtain⟨t,e⟩:=(show ∃t,u=Value.int i t from r);cases e;rfl
 |str x=>obtain⟨t,e⟩:=(show ∃t,u=Value.str x t from r);cases e;rfl
 |Df b=>obtain⟨t,e⟩:=(show ∃t,u=Value.bytes b t from r);cases e;rfl
 |nH b=>obtain⟨t,e⟩:=(show ∃t,u=Value.float b t from r);cases e;rfl
 |ref a=>cases(show u=Value.ref a from r);rfl
 |ty n=>cases(show u=Value.type n from r);rfl
section
variable{P:Program}{w:World}{H H':Hp}{h h':Heap}{a C dx:Addr}{fs fs':List (Str×V)}
theorem sF(hok:qE P w H h)(e:H a=some (.ins C dx fs)):∃mA,Ac h a dx C mA/\(∀f,nI (fs.lookup f) (mA f))/\PySem.Within mA (fs.map (·.1))/\fs.length<=1000/\H dx=some (.own a):=by
 obtain⟨d,z,ne,ob,mA,n,r,q⟩:=(show dj P w H h a (.ins C dx fs) from hok a _ e)
 exact⟨mA,⟨ob,n,ne⟩,r,q,z,d⟩
end
structure Bm(K:W.Frag)(C:Addr):Prop where
 pg:W.plainGet K C Str.empty=true
 hd:W.hasDictIn K C=true
 po:W.plainOver K C=true
 sa:W.findIn K (.ref C) "__setattr__"=some (some (.builtin "object.__setattr__"))
theorem Bm.get{K:W.Frag}{C:Addr}(c:Bm K C)(f:Str):W.plainGet K C f=true:=c.pg
def cO(K:W.Frag)(C:Addr)(f:Str):Prop:=W.findIn K (.ref C) f=some none
theorem cO.LS{K:W.Frag}{C:Addr}{f:Str}(n:cO K C f):W.takerIn K C f=some none:=by
 unfold W.takerIn
 rw[show W.findIn K (.ref C) f=some none from n]
 rfl
structure Meth(K:W.Frag)(C:Addr)(m:Str)(f:Addr):Prop where
 at_:W.findIn K (.ref C) m=some (some (.ref f))
 fn:W.isFn K (.ref f)=true
 kp:W.keepIn K (.ref f)=true
section
variable{X:Cx}{pins:List (Addr×Obj)}{σ:St}{H:Hp}{s:Shared}{a C dx:Addr}{fs:List (Str×V)}{f:Str}{v:V}{A:Around}{E:Value->Shared->Prop}
theorem Ad{b:Bool}{Q:Value->Shared->Prop}(I:Inv X pins σ H s)(e:H a=some (.ins C dx fs))(c:Bm X.K C)(n:cO X.K C f)(l:fs.lookup f=some v)(h:∀u s',Inv X pins σ H s'->RelV v u->Q u s'):wpAny (model X.prog X.w) A (getAttr (.ref a) f b) Q E s:=by
 obtain⟨mA,O,r,_,_,_⟩:=sF I.hok e
 obtain⟨u,hu,ru⟩:=nI.some_of (v:=v) (o:=mA f) (by rw[←l];exact r f)
 exact get_map I.pF O (c.get f) c.hd n hu (B4 ru) (h u _ (I.tok _) ru)
theorem sS{m:Str}{g:Addr}{pl:Sem Bool}{Q:Value×List Value->Shared->Prop}(I:Inv X pins σ H s)(e:H a=some (.ins C dx fs))(c:Bm X.K C)(k:Meth X.K C m g)(l:fs.lookup m=none)(h:Q (.ref g,[.ref a]) s):wpAny (model X.prog X.w) A (getMethod (.ref a) m pl) Q E s:=by
 obtain⟨mA,O,r,_,_,_⟩:=sF I.hok e
 have hn:mA m=none:=nI.none_of (by rw[←l];exact r m)
 exact DI I.pF O (c.get m) k.at_ k.fn hn h
theorem Ae{y:V}{u:Value}{Q:Unit->Shared->Prop}(I:Inv X pins σ H s)(e:H a=some (.ins C dx fs))(c:Bm X.K C)(n:cO X.K C f)(hl:fs.length<1000)(ry:RelV y u)(h:∀s',Inv X pins σ (upd H a (.ins C dx (lU f y fs))) s'->Q () s'):wpAny (model X.prog X.w) A (setAttr (.ref a) f u) Q E s:=by
 obtain⟨mA,O,r,wi,_,ho⟩:=sF I.hok e
 have hz:(fs.map (·.1)).length<=sizeLine:=by rw[YC,sizeLine_eq];omega
 refine Gy I.pF O c.sa c.po n.LS c.hd wi hz λh' O' sb=>h _ ?_
 have hd:∃o,h'.get? dx=some o:=let ⟨o,_,_,e',_⟩:=O'.ns;⟨o,e'⟩
 refine I.write (x:=a) (e:=dx) (by rw[e];exact True.intro) (.inr ho) (λb q hb z=>(sb.2 b hb).trans z) hd ?_
 refine⟨by rw[az O.ne];exact ho,?_,O.ne,O'.obj,_,O'.ns,λg=>?_,λg hg=>?_⟩
 ·have:=qG f y fs;omega
 ·show nI ((lU f y fs).lookup g) (if g=f then some u else mA g)
  rw[qF]
  by_cases q:g=f
  ·rw[YA q,YA q];exact ry
  ·rw[Yz q,Yz q];exact r g
 ·by_cases q:g=f
  ·rw[q];exact(pL f y fs).1
  ·refine(pL f y fs).2 g (wi g λz=>hg ?_)
   show(if g=f then some u else mA g)=none
   rw[Yz q];exact z
theorem Inv.made(I:Inv X pins σ H s):Inv X pins σ (upd (upd H s.heap.objs.size (.own (s.heap.objs.size+1))) (s.heap.objs.size+1) (.ins C s.heap.objs.size []))
  {s with heap:=(s.heap.push W.emptyDict).push (W.instObj C s.heap.objs.size)}:=by
 have e1:(s.heap.push W.emptyDict).get? s.heap.objs.size=some W.emptyDict:=Zi s.heap rfl
 have e2:((s.heap.push W.emptyDict).push (W.instObj C s.heap.objs.size)).get? (s.heap.objs.size+1)=some (W.instObj C s.heap.objs.size):=by
  have:=Zi (s.heap.push W.emptyDict) (o:=W.instObj C s.heap.objs.size) rfl
  rwa [ZF]at this
 have e3:(s.heap.push W.emptyDict).Ns s.heap.objs.size (λ_=>none):=⟨W.emptyDict,#[],_,e1,rfl,(λe he=>absurd he (by simp)),λ_=>rfl⟩
 have I1:=I.laid (a:=s.heap.objs.size) (o:=.own (s.heap.objs.size+1)) (h':=s.heap.push W.emptyDict) (t':=s.toks) (λb u q=>YI _ q) (YB _) ⟨_,e1⟩
 refine I1.laid (a:=s.heap.objs.size+1) (o:=.ins C s.heap.objs.size []) (t':=s.toks) (λb u q=>YI _ q) (Nat.le_of_eq (ZF _ _)) ?_
 have ne:s.heap.objs.size≠s.heap.objs.size+1:=Za (Nat.lt_succ_self _)
 refine⟨by rw[az ne,aj],Zd _,ne,e2,λ_=>none,(Heap.Ns1.of_empty e3).at λo q=>YI _ q,λ_=>True.intro,λy hy=>absurd rfl hy⟩
theorem Gz{prog:Program}{w:World}{env:Env}{e:Expr}{f:Str}{pos:Pos}{s:Shared}{Q:Value->Shared->Prop}(hb:attributeBase e f env (eval e env)=eval e env)(h:wpAny (model prog w) A (eval e env) (λo s₁=>wpAny (model prog w) A (getAttr o f true) Q E s₁) E s):wpAny (model prog w) A (eval (.Attribute e f pos) env) Q E s :=
 Attribute_any_ h (by rw[arm_eval_Attribute,hb])
end
def LU(K:W.Frag)(ta:TE)(f:Str):TE:=λσ H Q=>ta σ H λx H1=>∃a C dx fs v,x=.ref a/\H1 a=some (.ins C dx fs)/\Bm K C/\cO K C f/\fs.lookup f=some v/\Q v H1
def Ot(K:W.Frag)(ta tv:TE)(f:Str):TS:=λD σ H=>tv σ H λy H1=>ta σ H1 λx H2=>∃a C dx fs,x=.ref a/\H2 a=some (.ins C dx fs)/\Bm K C/\cO K C f/\fs.length<1000/\D.nx σ (upd H2 a (.ins C dx (lU f y fs)))
section
variable{X:Cx}{o e value:Expr}{f:Str}{pos pos' tpos:Pos}{ta tv:TE}
theorem Jc(he:PE X e ta)(hb:attributeBase e f X.env (eval e X.env)=eval e X.env):PE X (.Attribute e f pos) (LU X.K ta f):=by
 intro pins s σ H Q I h
 refine Gz hb (bV (he pins s σ H _ I h) λu s1 ⟨x,H1,I1,rx,a,C,dx,fs,v,ex,ea,c,n,l,q⟩=>?_)
 subst ex
 obtain rfl:u=Value.ref a:=rx
 exact Ad I1 ea c n l λu' s2 I2 ru=>⟨v,H1,I2,ru,q⟩
theorem fF(ha:PE X o ta)(hv:PE X value tv)(hs:swapsWith value (some (.Attribute o f pos')) pos.line X.env=pure false):PS X (.Assign [.Attribute o f pos'] value pos) (Ot X.K ta tv f):=by
 intro pins s σ H D I h
 refine plainObj_wpAny_Assign_Attribute (bV (hv pins s σ H _ I h) λu s1 ⟨y,H1,I1,ry,q⟩=>bV (ha pins s1 σ H1 _ I1 q) λov s2 ⟨x,H2,I2,rx,a,C,dx,fs,ex,ea,c,n,l,q2⟩=>?_) hs
 subst ex
 obtain rfl:ov=Value.ref a:=rx
 exact Ae I2 ea c n l ry λs3 I3=>⟨σ,_,I3,q2⟩
end
section
variable{X:Cx}{pins:List (Addr×Obj)}{σ:St}{H:Hp}{s:Shared}{A:Around}{E:Value->Shared->Prop}{Q:Value->Shared->Prop}{c:Value}{b:Bool}
inductive nK(K:W.Frag)(H:Hp):V->Value->Prop where
 |non:nK K H .non (.type "NoneType")
 |bl (x:Bool):nK K H (.bl x) (.type "bool")
 |int (i:Int):nK K H (.int i) (.type "int")
 |str (x:Str):nK K H (.str x) (.type "str")
 |nH (x:UInt64):nK K H (.nH x) (.type "float")
 |lst {a:Addr}{xs:List V} (e:H a=some (.lst xs)):nK K H (.ref a) (.type "list")
 |zZ {a:Addr}{o:Obj}{xs:List V} (e:H a=some (.zZ o (.lst xs))):nK K H (.ref a) (.type "list")
 |tup {a:Addr}{xs:List V} (e:H a=some (.tup xs)):nK K H (.ref a) (.type "tuple")
 |dK {a:Addr}{kvs:List (Key×V)} (e:H a=some (.dK kvs)):nK K H (.ref a) (.type "dict")
 |dT {a:Addr}{kvs:List (List Key×V)} (e:H a=some (.dT kvs)):nK K H (.ref a) (.type "dict")
 |ins {a C dx:Addr}{fs:List (Str×V)} (e:H a=some (.ins C dx fs)) (cl:Bm K C) (ha:W.findIn K (.ref C) "__class__"=some (some (.builtin "object.__class__")))
   (hn:W.specialIn K (.builtin "object.__class__") "__get__"=some (some (.builtin "getset_descriptor.__get__"))) (htk:W.takesIn K (.builtin "object.__class__")=some true)
   (hm:W.mroIn K C (.type "object")=some true):nK K H (.ref a) (.ref C)
theorem vI{x:V}{u t:Value}(I:Inv X pins σ H s)(rx:RelV x u)(ty:nK X.K H x t)(e:W.kitOne X.K t c=some b)(h:∀tk,Q (.bool b) {s with toks:=tk}):wpAny (model X.prog X.w) A (call (.builtin "isinstance") [u,c]) Q E s:=by
 cases ty with
 |non=>cases(show u=Value.none from rx);exact ZE W.kitx_none I.pF True.intro e (λz=>nomatch z) h
 |bl y=>cases(show u=Value.bool y from rx);exact ZE W.kitx_bool I.pF True.intro e (λz=>nomatch z) h
 |int i=>obtain⟨t,q⟩:=(show ∃t,u=Value.int i t from rx);cases q;exact ZE W.kitx_int I.pF True.intro e (λz=>nomatch z) h
 |str y=>obtain⟨t,q⟩:=(show ∃t,u=Value.str y t from rx);cases q;exact ZE W.kitx_str I.pF True.intro e (λz=>nomatch z) h
 |nH y=>obtain⟨t,q⟩:=(show ∃t,u=Value.float y t from rx);cases q;exact ZE W.kitx_float I.pF True.intro e (λz=>nomatch z) h
 |@lst a xs ea =>
  cases(show u=Value.ref a from rx)
  obtain⟨_,_,n,_,h1⟩:=(show dj X.prog X.w H s.heap a (.lst xs) from I.hok a _ ea)
  exact ZE W.kitx_list I.pF ⟨_,h1,rfl⟩ e (λz=>nomatch z) h
 |@zZ a ob xs ea =>
  cases(show u=Value.ref a from rx)
  obtain⟨_,_,_,n,_,h1⟩:=(show dj X.prog X.w H s.heap a (.zZ ob (.lst xs)) from I.hok a _ ea)
  exact ZE W.kitx_list I.pF ⟨_,h1,rfl⟩ e (λz=>nomatch z) h
 |@tup a xs ea =>
  cases(show u=Value.ref a from rx)
  obtain⟨_,_,_,p⟩:=(show dj X.prog X.w H s.heap a (.tup xs) from I.hok a _ ea)
  obtain⟨o,h1,h2,_⟩:=p
  exact ZE W.kitx_tuple I.pF ⟨o,h1,h2⟩ e (λz=>nomatch z) h
 |@dK a kvs ea =>
  cases(show u=Value.ref a from rx)
  obtain⟨_,_,vs,_,p⟩:=(show dj X.prog X.w H s.heap a (.dK kvs) from I.hok a _ ea)
  obtain⟨o,es,ep,h1,h2,_⟩:=p
  exact ZE W.kitx_dict I.pF ⟨o,h1,h2.1⟩ e (λz=>nomatch z) h
 |@dT a kvs ea =>
  cases(show u=Value.ref a from rx)
  obtain⟨_,_,xs,_,o,es,ep,h1,h2,_⟩:=(show dj X.prog X.w H s.heap a (.dT kvs) from I.hok a _ ea)
  exact ZE W.kitx_dict I.pF ⟨o,h1,h2.1⟩ e (λz=>nomatch z) h
 |@ins a C dx fs ea cl ha hn htk hm =>
  cases(show u=Value.ref a from rx)
  obtain⟨mA,O,_⟩:=sF I.hok ea
  obtain⟨od,J,_⟩:=O.look
  exact ZE (W.kitx_own (cl.get _) cl.hd ha hn htk hm) I.pF J e (λz=>nomatch z) h
end
structure eg(k:Nat)(A:Around):Prop where
 hd:A.handled=none
 dp:A.depth+3*k+5<recursionLimit
 un:A.units+16*k+200<cLine
theorem eg.mono{j k:Nat}{A:Around}(r:eg k A)(h:j<=k):eg j A:=⟨r.hd,by have:=r.dp;omega,by have:=r.un;omega⟩
theorem eg.deeper{k:Nat}{A:Around}(r:eg (k+1) A)(env:Env):eg k (A.deeper env) :=
 ⟨r.hd,by have:=r.dp;show A.depth+1+3*k+5<_;omega,by have:=r.un;show A.units+3+16*k+200<_;omega⟩
theorem Af{A:Around}{C:Addr}{us:List Value}{kw:List (Str×Value)}:(A.under (.builtin "type.__call__" ⟨.ref C::us,kw⟩)).depth=A.depth+1:=by
 first|rfl|simp[Around.under,Code.weight,Code.isCreation,Code.isGuard,Code.isCaller,Code.frames,Code.isFrame,guardIds]
theorem Ag{A:Around}{C:Addr}{us:List Value}{kw:List (Str×Value)}:(A.under (.builtin "type.__call__" ⟨.ref C::us,kw⟩)).units=A.units+1:=by
 first|rfl|simp[Around.under,Code.cUnits,Code.frames,Code.isFrame]
theorem eg.make{k:Nat}{A:Around}(r:eg (k+1) A)(C:Addr)(us:List Value)(kw:List (Str×Value)):eg k (A.under (.builtin "type.__call__" ⟨.ref C::us,kw⟩)) :=
 ⟨r.hd,by have:=r.dp;rw[Af];omega,by have:=r.un;rw[Ag];omega⟩
theorem eg.depth{k:Nat}{A:Around}(r:eg k A):A.depth<recursionLimit:=by have:=r.dp;omega
theorem eg.units{k:Nat}{A:Around}(r:eg k A):A.units+64<cLine:=by have:=r.un;omega
theorem eg.aQ{k:Nat}{A:Around}(r:eg k A):A.units<cLine:=by have:=r.un;omega
def Jd:TA:=λ_ H Q=>Q [] H
def DK(ta:TE)(tr:TA):TA:=λσ H Q=>ta σ H λx H1=>tr σ H1 λxs H2=>Q (x::xs) H2
section
variable{X:Cx}{e:Expr}{es:List Expr}{te:TE}{t:TA}{pos:Pos}
theorem ai:PA X [] Jd:=λ_ _ _ _ H Q I h=>Calls.spliced_nil ⟨[],H,I,.nil,h⟩
theorem af(ha:PE X e te)(hr:PA X es t)(hs:starEach (e::es) X.env=(false,eval e X.env)::starEach es X.env:=by rfl):PA X (e::es) (DK te t):=by
 intro pos pins s σ H Q I h
 rw[hs]
 show wpAny _ _ (spliced ((false,eval e X.env)::backTo pos (starEach es X.env))) _ _ s
 refine Calls.spliced_cons (bV (ha pins s σ H _ I h) λu s1 ⟨x,H1,I1,r1,q1⟩=>?_)
 exact bV (hr pos pins s1 σ H1 _ I1 q1) λus s2 ⟨xs,H2,I2,r2,q2⟩=>⟨x::xs,H2,I2,.cons r1 r2,q2⟩
def Ou(t:TA):TE:=λσ H Q=>t σ H λxs H1=>xs.length<=sizeLine/\∀p,H1 p=none->Q (.ref p) (upd H1 p (.tup xs))
def Ov(t:TA):TE:=λσ H Q=>t σ H λxs H1=>xs.length<=sizeLine/\∀p,H1 p=none->Q (.ref p) (upd H1 p (.lst xs))
theorem aH{x1}(h:PA X es t):PE X (.Tuple es x1 pos) (Ou t):=by
 intro pins s σ H Q I hq
 refine wpAny_Tuple_spliced (bV (h pos pins s σ H _ I hq) λus s1 ⟨xs,H1,I1,r,z,q⟩=>⟨by rw[←r.length];exact z,?_⟩)
 have hf:H1 s1.heap.objs.size=none:=I1.hok.fresh (YB _)
 refine⟨.ref s1.heap.objs.size,upd H1 s1.heap.objs.size (.tup xs),I1.laid (t':=s1.toks) (λb u e=>YI _ e) (YB _) ?_,rfl,q _ hf⟩
 exact⟨z,us,r,⟨_,Zi _ rfl,O,_,O⟩⟩
theorem dS(h:PA X es t):PE X (.List es pos) (Ov t):=by
 intro pins s σ H Q I hq
 refine wpAny_List_spliced (bV (h pos pins s σ H _ I hq) λus s1 ⟨xs,H1,I1,r,z,q⟩=>⟨by rw[←r.length];exact z,?_⟩)
 have hf:H1 s1.heap.objs.size=none:=I1.hok.fresh (YB _)
 refine⟨.ref s1.heap.objs.size,upd H1 s1.heap.objs.size (.lst xs),I1.laid (t':=s1.toks) (λb u e=>YI _ e) (YB _) ?_,rfl,q _ hf⟩
 exact⟨z,us,0,r,Zi _ rfl⟩
end
abbrev Sp:=List V->Hp->VK->XK->Prop
abbrev Dh:=List Env->Hp->Shared->XK->Value->Shared->Prop
structure Ah(P:Program)(w:World)(K:W.Frag)(mg:Str->Option Value)(base:Heap)(A:Around)(outer:List Env)(s:Shared)(H:Hp):Prop where
 frames:A.frames=some outer
 mod:Mod K mg base
 bs:∀b o,base.get? b=some o->s.heap.get? b=some o/\H b=none
 Dg:base.objs.size<=s.heap.objs.size
 qR:s.heap.FunFrames base outer
 IQ:∀b∈frs outer,H b=none
 hok:qE P w H s.heap
 bare:AllBare s.gens
def CE(outer:List Env)(P:Program)(w:World)(H:Hp)(s:Shared)(Q:VK)(u:Value)(s':Shared):Prop :=
 ∃v H',s'.os=s.os/\AllBare s'.gens/\Un (frs outer) [] H H' s.heap s'.heap/\qE P w H' s'.heap/\RelV v u/\Q v H'
def CR(CX:Dh)(outer:List Env)(P:Program)(w:World)(H:Hp)(s:Shared)(Q:VK)(E:XK)(r:Result)(s':Shared):Prop :=
 match r with
 | .ok (.ret u)=>CE outer P w H s Q u s'
 | .ok _=>False
 | .error e=>CX outer H s E e s'
structure bD(P:Program)(w:World)(K:W.Frag)(mg:Str->Option Value)(base:Heap)(CX:Dh)(k:Nat)(f:Addr)(fd:FuncData)(ps:List Str)(sp:Sp):Prop where
 len:∀vs H Q E,sp vs H Q E->vs.length=ps.length
 run:∀(A:Around)(outer:List Env)(s:Shared)(H:Hp)(args:Args)(us:List Value)(vs:List V)(Q:VK)(E:XK),eg k A->Ah P w K mg base A outer s H->BindsTo s fd args (ps.zip us)->Vals vs us->sp vs H Q E->codeAny (model P w) A (.call (.ref f) args) (CR CX outer P w H s Q E) s
theorem Ah.make{P:Program}{w:World}{K:W.Frag}{mg:Str->Option Value}{base:Heap}{A:Around}{outer:List Env}{s:Shared}{H:Hp}(e:Ah P w K mg base A outer s H)(C:Addr)(us:List Value)(kw:List (Str×Value)):Ah P w K mg base (A.under (.builtin "type.__call__" ⟨.ref C::us,kw⟩)) outer s H:=⟨by first|exact e.frames | (simpa [Around.under,Code.envs,Code.isFrame,pushEnvs]using e.frames),e.mod,e.bs,e.Dg,e.qR,e.IQ,e.hok,e.bare⟩
section
variable{X:Cx}{pins:List (Addr×Obj)}{σ:St}{H:Hp}{s s':Shared}
theorem Inv.LV(I:Inv X pins σ H s):Ah X.prog X.w X.K X.mg X.base X.A X.stack s H :=
 ⟨I.ok.frames,I.ok.mod,I.bs,YU I.ok.Dg I.sz,I.stack,I.wL,I.hok,I.bare⟩
theorem Inv.after{Q:VK}{u:Value}(I:Inv X pins σ H s)(h:CE X.stack X.prog X.w H s Q u s'):EP X pins σ Q u s':=by
 obtain⟨v,H',os,bare,un,hok,r,q⟩:=h
 obtain⟨hh,g,d,t,os'⟩:=s'
 obtain rfl:os'=s.os:=os
 exact⟨v,H',I.call (h':=hh) (g':=g) (d':=d) (t':=t) (ch:=[]) un hok bare (λb z=>absurd z (by simp)),r,q⟩
end
def DL(sp:Sp)(uR:List V)(E:XK)(t:TA):TE:=λσ H Q=>t σ H λvs H1=>sp (vs++uR) H1 Q E
def Il(C:Addr)(m:Str)(sp:Sp)(uR:List V)(E:XK)(ta:TE)(t:TA):TE:=λσ H Q=>ta σ H λx H1=>∃a dx fs,x=.ref a/\H1 a=some (.ins C dx fs)/\fs.lookup m=none/\t σ H1 λvs H2=>sp (x::(vs++uR)) H2 Q E
def LW(C:Addr)(sp:Sp)(uR:List V)(E:XK)(t:TA):TE:=λσ H Q=>t σ H λvs H1=>∀x dx,H1 x=none->H1 dx=none->dx≠x->sp (.ref x::(vs++uR)) (upd (upd H1 dx (.own x)) x (.ins C dx [])) (λv H2=>v=.non/\Q (.ref x) H2) E
def Binds(K:W.Frag)(fd:FuncData)(ps:List Str)(ds:List Value):Prop :=
 ∀(s:Shared)(us:List Value),K.In s.heap->(us++ds).length=ps.length->BindsTo s fd ⟨us,[]⟩ (ps.zip (us++ds))
theorem Binds.all{K:W.Frag}{fd:FuncData}{ps:List Str}(h:∀us:List Value,us.length=ps.length->bindArgs fd ⟨us,[]⟩=pure (ps.zip us)):Binds K fd ps []:=λs us _ hl=>by
 rw[Ze]at hl⊢
 exact .of_eq (h us hl)
def Passes(CX:Dh)(X:Cx)(E:XK):Prop:=∀(pins:List (Addr×Obj))(σ:St)(H:Hp)(s:Shared)(e:Value)(s':Shared),Inv X pins σ H s->CX X.stack H s E e s'->X.xe e s'
section
variable{X:Cx}{CX:Dh}{k:Nat}{f C:Addr}{fd:FuncData}{ps:List Str}{sp:Sp}{uR:List V}{ds:List Value}{E:XK}{x m:Str}{p pos apos:Pos}{e o:Expr}{es:List Expr}{ta:TE}{t:TA}
theorem Ai{pins:List (Addr×Obj)}{σ:St}{H:Hp}{s:Shared}{Q:VK}{us:List Value}{vs:List V}(F:bD X.prog X.w X.K X.mg X.base CX k f fd ps sp)(hr:eg k X.A)(hb:Binds X.K fd ps ds)(hd:Vals uR ds)(hx:Passes CX X E)(I:Inv X pins σ H s)(r:Vals vs us)(h:sp (vs++uR) H Q E):wpAny (model X.prog X.w) X.A (call (.ref f) us) (EP X pins σ Q) X.xe s:=by
 have r2:Vals (vs++uR) (us++ds):=r.append hd
 have hl:(us++ds).length=ps.length:=by rw[←r2.length];exact F.len _ _ _ _ h
 refine wpAny_call (codeAny_mono (F.run X.A X.stack s H ⟨us,[]⟩ (us++ds) (vs++uR) Q E hr I.LV (hb s us I.pF hl) r2 h) λr s' hq=>?_)
 cases r with
 |error e=>exact hx pins σ H s e s' I hq
 |ok fl =>
  cases fl with
  |ret u=>exact I.after hq
  |next=>exact False.elim hq
  |brk=>exact False.elim hq
  |cont=>exact False.elim hq
theorem Bo(F:bD X.prog X.w X.K X.mg X.base CX k f fd ps sp)(hr:eg k X.A)(hg:Gl X x)(hm:X.mg x=some (.ref f))(hk:W.keepIn X.K (.ref f)=true)(hb:Binds X.K fd ps ds)(hd:Vals uR ds)(hx:Passes CX X E)(ha:PA X (e::es) t)(hdb:(x==("__debug__":Str))=false:=by decide)(he:starEach (e::es) X.env=(false,eval e X.env)::starEach es X.env:=by rfl)(hpl:(backTo pos (starEach es X.env)).any (·.1)=false:=by rfl):PE X (.Call (.Name x p) (e::es) [] pos) (DL sp uR E t):=by
 intro pins s σ H Q I h
 refine wpAny_Call_Name_kw (wM I hg hm ?_ hdb)
 refine W.callWith_K (h₀:=X.base) I.ok.mod.Lz hk (bV (ha pos pins s σ H _ I h) λus s1 ⟨vs,H1,I1,r,q⟩=>⟨I1.pF,?_⟩) he hpl
 exact Ai F hr hb hd hx I1 r q
theorem lK{pl:Sem Bool}(he:PE X o ta)(c:Bm X.K C)(hm:Meth X.K C m f)(F:bD X.prog X.w X.K X.mg X.base CX k f fd ps sp)(hr:eg k X.A)(hb:Binds X.K fd ps ds)(hd:Vals uR ds)(hx:Passes CX X E)(ha:PA X (e::es) t)(hst:starEach (e::es) X.env=(false,eval e X.env)::starEach es X.env:=by rfl)(hpl:(backTo pos (starEach es X.env)).any (·.1)=false:=by rfl)(ht:eval (.Call (.Attribute o m apos) (e::es) [] pos) X.env=(do
   let ov ←eval o X.env
   standAt apos.atName
   let (f,first) ←holding [ov] (getMethod ov m pl)
   callWith pos f first (backTo pos (starEach (e::es) X.env)) (backToKw pos (keywordEach [] X.env))):=by rfl):PE X (.Call (.Attribute o m apos) (e::es) [] pos) (Il C m sp uR E ta t):=by
 intro pins s σ H Q I h
 refine W.methodCall_KW (pl:=pl) (bV (he pins s σ H _ I h) λu s1 ⟨x,H1,I1,rx,a,dx,fs,ex,ea,l,q⟩=>?_) ht
 subst ex
 obtain rfl:u=Value.ref a:=rx
 refine sS I1 ea c hm l ?_
 refine W.callWith_K (first:=[.ref a]) (h₀:=X.base) I.ok.mod.Lz hm.kp (bV (ha pos pins s1 σ H1 _ I1 q) λus s2 ⟨vs,H2,I2,r,q2⟩=>⟨I2.pF,?_⟩) hst hpl
 exact Ai (us:=.ref a::us) (vs:=.ref a::vs) F hr hb hd hx I2 (.cons rfl r) q2
theorem yI{pl:Sem Bool}(he:PE X o ta)(c:Bm X.K C)(hm:Meth X.K C m f)(F:bD X.prog X.w X.K X.mg X.base CX k f fd ps sp)(hr:eg k X.A)(hb:Binds X.K fd ps ds)(hd:Vals uR ds)(hx:Passes CX X E)(ht:eval (.Call (.Attribute o m apos) [] [] pos) X.env=(do
   let ov ←eval o X.env
   standAt apos.atName
   let (f,first) ←holding [ov] (getMethod ov m pl)
   callWith pos f first (backTo pos (starEach [] X.env)) (backToKw pos (keywordEach [] X.env))):=by rfl):PE X (.Call (.Attribute o m apos) [] [] pos) (Il C m sp uR E ta Jd):=by
 intro pins s σ H Q I h
 refine W.methodCall_KW (pl:=pl) (bV (he pins s σ H _ I h) λu s1 ⟨x,H1,I1,rx,a,dx,fs,ex,ea,l,q⟩=>?_) ht
 subst ex
 obtain rfl:u=Value.ref a:=rx
 refine sS I1 ea c hm l ?_
 exact W.callWith_K0 (first:=[.ref a]) I1.pF hm.kp (Ai (us:=[.ref a]) (vs:=[.ref a]) F hr hb hd hx I1 (.cons rfl .nil) q)
structure Mk(K:W.Frag)(C f:Addr):Prop where
 makes:W.makesIn K C=true
 init:W.findIn K (.ref C) "__init__"=some (some (.ref f))
 fn:W.isFn K (.ref f)=true
 kp:W.keepIn K (.ref C)=true
theorem DM{pins:List (Addr×Obj)}{σ:St}{H:Hp}{s:Shared}{Q:VK}{us:List Value}{vs:List V}(M:Mk X.K C f)(F:bD X.prog X.w X.K X.mg X.base CX k f fd ps sp)(hr:eg (k+1) X.A)(hb:Binds X.K fd ps ds)(hd:Vals uR ds)(hx:Passes CX X E)(I:Inv X pins σ H s)(r:Vals vs us)(h:∀x dx,H x=none->H dx=none->dx≠x->sp (.ref x::(vs++uR)) (upd (upd H dx (.own x)) x (.ins C dx [])) (λv H2=>v=.non/\Q (.ref x) H2) E):wpAny (model X.prog X.w) X.A (call (.ref C) us) (EP X pins σ Q) X.xe s:=by
 have hq:=h (s.heap.objs.size+1) s.heap.objs.size (I.hok.fresh (Nat.le_succ _)) (I.hok.fresh (YB _)) (Za (Nat.lt_succ_self _))
 have I2:=Inv.made (C:=C) I
 have r2:Vals (V.ref (s.heap.objs.size+1)::(vs++uR)) (Value.ref (s.heap.objs.size+1)::(us++ds)):=.cons rfl (r.append hd)
 have hl:(Value.ref (s.heap.objs.size+1)::us++ds).length=ps.length:=by
  have e:=r2.length
  rw[F.len _ _ _ _ hq]at e
  exact e.symm
 refine wpAny_call (DJ (f:=f) I.pF M.makes M.init (beq_iff_eq.mp M.fn) (codeAny_mono (F.run _ X.stack _ _ ⟨Value.ref (s.heap.objs.size+1)::us,[]⟩ (Value.ref (s.heap.objs.size+1)::(us++ds)) _ _ E (hr.make C us [])
  (I2.LV.make C us []) (hb _ (Value.ref (s.heap.objs.size+1)::us) I2.pF hl) r2 hq) λr s' hq'=>?_))
 cases r with
 |error e=>exact hx pins σ _ _ e s' I2 hq'
 |ok fl =>
  cases fl with
  |ret u =>
   obtain⟨v,H',I3,rv,ev,q3⟩:=I2.after hq'
   subst ev
   exact⟨rv,⟨V.ref (s.heap.objs.size+1),H',I3,O,q3⟩⟩
  |next=>exact False.elim hq'
  |brk=>exact False.elim hq'
  |cont=>exact False.elim hq'
theorem nM(M:Mk X.K C f)(F:bD X.prog X.w X.K X.mg X.base CX k f fd ps sp)(hr:eg (k+1) X.A)(hg:Gl X x)(hm:X.mg x=some (.ref C))(hb:Binds X.K fd ps ds)(hd:Vals uR ds)(hx:Passes CX X E)(ha:PA X (e::es) t)(hdb:(x==("__debug__":Str))=false:=by decide)(he:starEach (e::es) X.env=(false,eval e X.env)::starEach es X.env:=by rfl)(hpl:(backTo pos (starEach es X.env)).any (·.1)=false:=by rfl):PE X (.Call (.Name x p) (e::es) [] pos) (LW C sp uR E t):=by
 intro pins s σ H Q I h
 refine wpAny_Call_Name_kw (wM I hg hm ?_ hdb)
 refine W.callWith_K (h₀:=X.base) I.ok.mod.Lz M.kp (bV (ha pos pins s σ H _ I h) λus s1 ⟨vs,H1,I1,r,q⟩=>⟨I1.pF,?_⟩) he hpl
 exact DM M F hr hb hd hx I1 r q
end
section
variable{X:Cx}{CX:Dh}{k:Nat}{f C:Addr}{fd:FuncData}{ps ks:List Str}{sp:Sp}{E:XK}{x m:Str}{p pos apos kpos:Pos}{e o:Expr}{es:List Expr}{kws:List Keyword}{te ta:TE}{t tk:TA}{nm:Option Str}
variable{g:List Value->List Value->List Value}{gV:List V->List V->List V}
end
structure aG(N P:List Str)(sc:Scope):Prop where
 kind:sc.kind=.function
 co:sc.isCoroutine=false
 gen:sc.isGenerator=false
 nd:N.Nodup
 pre:N.take P.length=P
 par:∀x∈P,sc.names.lookup x=some .local\/sc.names.lookup x=some .cell
 Je:∀y∈sc.names,y.2≠.free
theorem vJ{kindOf:Str->Option NameKind}{x:Str}:∀{binds:List (Str×Value)}{m:Str->Option Value},(∀v,(x,v)∉binds)->bindL kindOf binds m x=m x
 |[],_,_=>rfl
 | (n,v)::r,m,h=>by
  unfold bindL
  rw[vJ λw hw=>h w (YS _ hw)]
  split
  ·have:x≠n:=by rintro rfl;exact h v Y6
   simp[this]
  ·rfl
theorem vK{kindOf:Str->Option NameKind}{x:Str}:∀{binds:List (Str×Value)}{m:Str->Option Value},(∀v,(x,v)∉binds)->bindC kindOf binds m x=m x
 |[],_,_=>rfl
 | (n,v)::r,m,h=>by
  unfold bindC
  rw[vK λw hw=>h w (YS _ hw)]
  split
  ·rfl
  ·have:x≠n:=by rintro rfl;exact h v Y6
   simp[this]
theorem vL{kindOf:Str->Option NameKind}{x:Str}{v:Value}:∀{P:List Str}{vs:List Value}{i:Nat}{m:Str->Option Value},P.Nodup->P[i]?=some x->vs[i]?=some v->kindOf x=some .local->bindL kindOf (P.zip vs) m x=some v
 |[],_,_,_,_,h,_,_=>by simp at h
 |_::_,[],_,_,_,_,h,_=>by simp at h
 |p::P,w::vs,0,m,nd,h1,h2,hk=>by
  simp at h1 h2;subst h1;subst h2
  show bindL kindOf ((p,w)::P.zip vs) m p=_
  unfold bindL
  rw[vJ λv hv=>(ZK.mp nd).1 (List.of_mem_zip hv).1,YA hk]
  simp
 |p::P,w::vs,i+1,m,nd,h1,h2,hk=>by
  show bindL kindOf ((p,w)::P.zip vs) m x=_
  unfold bindL
  exact vL (i:=i) (ZK.mp nd).2 (by simpa using h1) (by simpa using h2) hk
theorem vM{kindOf:Str->Option NameKind}{x:Str}{v:Value}:∀{P:List Str}{vs:List Value}{i:Nat}{m:Str->Option Value},P.Nodup->P[i]?=some x->vs[i]?=some v->kindOf x≠some .local->bindC kindOf (P.zip vs) m x=some v
 |[],_,_,_,_,h,_,_=>by simp at h
 |_::_,[],_,_,_,_,h,_=>by simp at h
 |p::P,w::vs,0,m,nd,h1,h2,hk=>by
  simp at h1 h2;subst h1;subst h2
  show bindC kindOf ((p,w)::P.zip vs) m p=_
  unfold bindC
  rw[vK λv hv=>(ZK.mp nd).1 (List.of_mem_zip hv).1,Yz hk]
  simp
 |p::P,w::vs,i+1,m,nd,h1,h2,hk=>by
  show bindC kindOf ((p,w)::P.zip vs) m x=_
  unfold bindC
  exact vM (i:=i) (ZK.mp nd).2 (by simpa using h1) (by simpa using h2) hk
def start(N:List Str)(vs:List V):St:=vs.map some++List.replicate (N.length-vs.length) none
def Aj(CX:Dh)(P:Program)(w:World)(K:W.Frag)(mg:Str->Option Value)(base:Heap)(N:List Str)(qual:Str)(scope:Scope)(f:Addr)(cd:Value)(A:Around)(outer:List Env)(s:Shared)(H:Hp)(E:XK):Cx where
 prog:=P
 w:=w
 K:=K
 mg:=mg
 base:=base
 A:=A.deeper (envOfC qual scope s.heap.objs.size f cd)
 N:=N
 s₀:=s
 H₀:=H
 env:=envOfC qual scope s.heap.objs.size f cd
 outer:=outer
 stack:=envOfC qual scope s.heap.objs.size f cd::outer
 ex:=[]
 calm:=true
 fn:=λ_=>true
 pn:=[]
 xe:=λe s'=>wpAny (model P w) (A.deeper (envOfC qual scope s.heap.objs.size f cd)) (leaving (envOfC qual scope s.heap.objs.size f cd) e) (λ_ s''=>CX outer H s E e s'') (λe' s''=>CX outer H s E e' s'') s'
theorem yJ{sc:Scope}{n:Nat}{x:Str}(h:sc.names.lookup x=some .cell):∃c,(cellsFrom n sc.names []).lookup x=some c:=by
 have q:=W.cellsFrom_some sc.names n [] (.inl h)
 exact Option.isSome_iff_exists.mp q
theorem B5{CX:Dh}{P:Program}{w:World}{K:W.Frag}{mg:Str->Option Value}{base:Heap}{N ps:List Str}{qual:Str}{scope:Scope}{f:Addr}{cd:Value}{A:Around}{outer:List Env}{s s1:Shared}{H:Hp}{E:XK}{us:List Value}{vs:List V}(S:aG N ps scope)(hd:A.handled=none)(e0:Ah P w K mg base A outer s H)(hl:vs.length=ps.length)(r:Vals vs us)(x:InCallC s s.heap.objs.size (bindL (envOfC qual scope s.heap.objs.size f cd).kindOf (ps.zip us) λ_=>none) (cellsFrom (s.heap.objs.size+1) scope.names []) (bindC (envOfC qual scope s.heap.objs.size f cd).kindOf (ps.zip us) λ_=>none) s1):Inv (Aj CX P w K mg base N qual scope f cd A outer s H E) [] (start N vs) H s1:=by
 have hpl:ps.length<=N.length:=by have:=congrArg List.length S.pre;rw[Zn]at this;omega
 obtain⟨h1,tk,rfl,hk⟩:=x.done
 have LX:∀b:Addr,b∉(Aj CX P w K mg base N qual scope f cd A outer s H E).ex:=λb z=>absurd (show b∈([]:List Addr) from z) (by simp)
 refine⟨⟨e0.mod,S.kind,O,O,YB _,λy z c h1 h2=>?_,λy hy=>?_,λy c _ h=>?_,λ_=>hd,Around.frames_deeper e0.frames,.inr ⟨O,O⟩,λb z=>absurd z (LX b),e0.bs,e0.Dg,λb _ _=>LX b,λb z=>absurd z (LX b),e0.qR,e0.IQ⟩,O,e0.bare,Un.kept hk,⟨_,x.toInCall.ns,λi y v h1 h2 h3=>?_⟩,λy c h=>⟨_,x.cell y c h⟩,e0.hok.fresh (YB _),λy c h=>?_,λp hp=>absurd (show p∈([]:List (Addr×Obj)) from hp) (by simp),e0.hok.kept hk,?_⟩
 ·exact name_of_addr x.apart (Zf h1) (Zf h2)
 ·have hy:scope.names.lookup y=some .cell\/scope.names.lookup y=some .free:=hy
  rcases hy with hy|hy
  ·exact yJ hy
  ·exact absurd rfl (S.Je _ (Zf hy))
 ·exact Nat.le_of_lt (x.above y c (Zf h))
 ·have hi:i<vs.length:=by
   unfold start at h2
   by_cases hi:i<vs.length
   ·exact hi
   ·rw[ZR (by simpa using hi)]at h2
    rw[List.getElem?_replicate]at h2
    split at h2<;>cases h2
  have ha:vs[i]?=some v:=by
   unfold start at h2
   rw[List.getElem?_append_left (by simpa using hi),Zk]at h2
   cases e:vs[i]? with
   |none=>rw[e]at h2;cases h2
   |some a=>rw[e]at h2;cases h2;rfl
  obtain⟨u,hu,rv⟩:=r.get ha
  have hp:ps[i]?=some y:=by
   rw[←S.pre,List.getElem?_take_of_lt (by omega)];exact h1
  have RC:ps.Nodup:=by rw[←S.pre];exact S.nd.sublist (List.take_sublist _ _)
  refine⟨u,rv,?_⟩
  rcases S.par y (YT hp) with k|k
  ·exact .inl ⟨k,vL RC hp hu k⟩
  ·obtain⟨c,e⟩:=yJ (n:=s.heap.objs.size+1) k
   refine .inr ⟨.inl k,c,e,?_⟩
   have q:=x.cell y c e
   rw[vM RC hp hu (by show scope.names.lookup y≠_;rw[k];decide)]at q
   exact q
 ·exact e0.hok.fresh (Nat.le_of_lt (x.above y c (Zf h)))
 ·unfold start
  show _=N.length
  rw[YE,YC,Zo]
  omega
theorem Im{CX:Dh}{P:Program}{w:World}{K:W.Frag}{mg:Str->Option Value}{base:Heap}{k:Nat}{f:Addr}{name qual:Str}{params:Arguments}{body:List Stmt}{scope:Scope}{dV kV doc pm cdv ct oc:Value}{an od:Option Addr}{osl:Array (Option Value)}{N ps:List Str}{sp:Sp}(lk:K.lookup f=some ⟨oc,od,.func (W.fnOf name qual params body scope dV kV doc pm an cdv ct),osl⟩)(hcd:W.codeIn K cdv qual=true)(S:aG N ps scope)(len:∀vs H Q E,sp vs H Q E->vs.length=ps.length)(hbody:∀(A:Around)(outer:List Env)(s:Shared)(H:Hp)(vs:List V)(Q:VK)(E:XK),eg k (A.deeper (envOfC qual scope s.heap.objs.size f cdv))->sp vs H Q E->∃t,Bg (Aj CX P w K mg base N qual scope f cdv A outer s H E) body t/\t {nx:=λ_ H'=>Q .non H',rt:=Q} (start N vs) H):bD P w K mg base CX (k+1) f (W.fnOf name qual params body scope dV kV doc pm an cdv ct) ps sp:=by
 refine⟨len,λA outer s H args us vs Q E hr e0 hb r FY=>?_⟩
 have hl:=len _ _ _ _ FY
 have KX:K.In s.heap:=e0.mod.Lz.keeps λb o e=>(e0.bs b o e).1
 have lim:s.heap.NoLimit:=e0.mod.nolimit.keeps λb o e=>(e0.bs b o e).1
 have hkind:∀y∈ps.zip us,scope.names.lookup y.1=some .local\/(scope.names.lookup y.1=some .cell/\((cellsFrom (s.heap.objs.size+1) scope.names []).lookup y.1).isSome=true):=λ⟨n,v⟩ hy=>by
  rcases S.par n (List.of_mem_zip hy).1 with q|q
  ·exact .inl q
  ·exact .inr ⟨q,W.cellsFrom_some _ _ _ (.inl q)⟩
 refine codeAny_call_function hr.depth (KX _ _ lk) rfl S.co S.gen rfl (W.codeRec_of KX hcd) (hb _ _ _ _ ?_)
 refine wpAny_newFunctionEnv_cells S.kind hkind λenv he s1 x=>?_
 subst he
 refine⟨lim.keeps x.toInCall.keep,codeAny_func ?_⟩
 obtain⟨t,ht,hq⟩:=hbody A outer s H vs Q E (hr.deeper _) FY
 have I:Inv (Aj CX P w K mg base N qual scope f cdv A outer s H E) [] (start N vs) H s1:=B5 S hr.hd e0 hl r x
 refine Zq (ht [] s1 (start N vs) H _ I hq) (λfl s' hs=>?_) λe s' hs=>hs
 have fin:∀{σ':St}{H':Hp}{v:V}{u:Value},Inv (Aj CX P w K mg base N qual scope f cdv A outer s H E) [] σ' H' s'->RelV v u->Q v H'->CE outer P w H s Q u s' :=
  λ{σ' H' v u} J rv q=>⟨v,H',J.os,J.bare,J.base,J.hok,rv,q⟩
 cases fl with
 |ret u =>
  obtain⟨v,σ',H',J,rv,q⟩:=hs
  exact fin J rv q
 |next =>
  obtain⟨σ',H',J,q⟩:=hs
  exact fin (v:=V.non) (u:=Value.none) J rfl q
 |brk =>
  obtain⟨_,_,_,q⟩:=hs
  exact False.elim q
 |cont =>
  obtain⟨_,_,_,q⟩:=hs
  exact False.elim q
section
variable{X:Cx}{x:Str}{p pos:Pos}{e:Expr}{es:List Expr}{t:TA}{id T:String}{r:List V->Hp->VK->Prop}
def NI(r:List V->Hp->VK->Prop)(t:TA):TE:=λσ H Q=>t σ H λvs H1=>r vs H1 Q
theorem DN(hc:fz X (.builtin id) r)(hg:Gl X x)(hm:X.mg x=none)(hv:bootBuiltins x=some (.builtin id))(ha:PA X (e::es) t)(hn:x ≠ "__name__":=by decide)(hdb:(x==("__debug__":Str))=false:=by decide)(he:starEach (e::es) X.env=(false,eval e X.env)::starEach es X.env:=by rfl)(hpl:(backTo pos (starEach es X.env)).any (·.1)=false:=by rfl):PE X (.Call (.Name x p) (e::es) [] pos) (NI r t):=by
 intro pins s σ H Q I h
 refine wpAny_Call_Name_kw (pI I hg hm hv ?_ hn hdb)
 exact PyProof.Rows.callWith_builtin1 (bV (ha pos pins s σ H _ I h) λus s1 ⟨vs,H1,I1,r1,q1⟩=>hc pins s1 σ H1 vs us Q I1 r1 q1) he hpl
theorem B6(hc:fz X (.type T) r)(hg:Gl X x)(hm:X.mg x=none)(hv:bootBuiltins x=some (.type T))(ha:PA X (e::es) t)(hn:x ≠ "__name__":=by decide)(hdb:(x==("__debug__":Str))=false:=by decide)(he:starEach (e::es) X.env=(false,eval e X.env)::starEach es X.env:=by rfl)(hpl:(backTo pos (starEach es X.env)).any (·.1)=false:=by rfl):PE X (.Call (.Name x p) (e::es) [] pos) (NI r t):=by
 intro pins s σ H Q I h
 refine wpAny_Call_Name_kw (pI I hg hm hv ?_ hn hdb)
 exact ZH (bV (ha pos pins s σ H _ I h) λus s1 ⟨vs,H1,I1,r1,q1⟩=>hc pins s1 σ H1 vs us Q I1 r1 q1) he hpl
end
end L2
namespace HT
open PySem PyProof.Rows
section
open PySem.SeqAt
open PySem.AutoSeq1 (wpAny_loadPart')
open PySem.MeetsSeq PySem.MeetsSeq2 PySem.MeetsSeq3
end
section
variable{prog:Program}{w:World}{A:Around}{E:Value->Shared->Prop}{s:Shared}
end
end HT
namespace L2
open PySem PySem.Spec PyProof.Rows
abbrev TO:=St->Hp->(Option Int->Hp->Prop)->Prop
def PO(X:Cx)(e:Option Expr)(t:TO):Prop :=
 ∀(pins:List (Addr×Obj))(s:Shared)(σ:St)(H:Hp)(Q:Option Int->Hp->Prop),Inv X pins σ H s->t σ H Q->wpAny (model X.prog X.w) X.A (evalPart e X.env) (λu s'=>∃o H',Inv X pins σ H' s'/\IsPart u o/\Q o H') X.xe s
def GA:TO:=λ_ H Q=>Q none H
def LY(t:TE):TO:=λσ H Q=>t σ H λx H1=>∃i,x=.int i/\Q (some i) H1
section
variable{X:Cx}{e:Expr}{te:TE}{lo hi:Option Expr}{tl th:TO}{pos p2:Pos}
theorem GB:PO X none GA:=by
 intro pins s σ H Q I h
 rw[evalPart_none]
 exact Y5 ⟨none,H,I,.none,h⟩
theorem GC(h:PE X e te):PO X (some e) (LY te):=by
 intro pins s σ H Q I hw
 rw[evalPart_some]
 refine bV (h pins s σ H _ I hw) λu s1 ⟨x,H1,I1,r1,q1⟩=>?_
 obtain⟨i,rfl,q⟩:=q1
 obtain⟨t,rfl⟩:=r1
 exact⟨some i,H1,I1,.int i t,q⟩
def RD(X:Cx)(r:V->Option Int->Option Int->Hp->VK->Prop):Prop :=
 ∀(pins:List (Addr×Obj))(s:Shared)(σ:St)(H:Hp)(x:V)(v vl vu:Value)(lo hi:Option Int)(sl:Addr)(Q:VK),Inv X pins σ H s->RelV x v->s.heap.IsSliceOf sl vl vu .none->IsPart vl lo->IsPart vu hi->r x lo hi H Q->∃T id,typeLookup (.type T) "__getitem__"=pure (some (.builtin id))/\s.TypeIs v T/\wpAny (model X.prog X.w) X.A (getItem v (.ref sl)) (EP X pins σ Q) X.xe s
def TV(r:V->Option Int->Option Int->Hp->VK->Prop)(te:TE)(tl th:TO):TE:=λσ H Q=>te σ H λx H1=>tl σ H1 λl H2=>th σ H2 λu H3=>r x l u H3 Q
theorem DO{r:V->Option Int->Option Int->Hp->VK->Prop}(hr:RD X r)(he:PE X e te)(hl:PO X lo tl)(hu:PO X hi th):PE X (.Subscript e (.Slice lo hi none p2) pos) (TV r te tl th):=by
 intro pins s σ H Q I h
 refine Subscript_ (bV (he pins s σ H _ I h) λv s1 ⟨x,H1,I1,r1,q1⟩=>?_)
 refine wpAny_Slice (bV (hl pins s1 σ H1 _ I1 q1) λvl s2 ⟨l,H2,I2,pl,q2⟩=>bV (hu pins s2 σ H2 _ I2 q2) λvu s3 ⟨u,H3,I3,pu,q3⟩=>?_)
 rw[evalPart_none]
 refine Y5 ?_
 have I4:Inv X pins σ H3 {s3 with heap:=s3.heap.push {cls:=.type "slice",data:=.fields #[vl,vu,.none]}}:=I3.kept (t':=s3.toks) λb ob q=>YI _ q
 obtain⟨T,id,hT,ht,hg⟩:=hr pins {s3 with heap:=s3.heap.push {cls:=.type "slice",data:=.fields #[vl,vu,.none]}} σ H3 x v vl vu l u s3.heap.objs.size Q I4 r1 (Heap.IsSliceOf.new ..) pl pu q3
 show wpAny (model X.prog X.w) X.A (subscriptTail e (.Slice lo hi none p2) v (.ref s3.heap.objs.size)) (EP X pins σ Q) X.xe {s3 with heap:=s3.heap.push {cls:=.type "slice",data:=.fields #[vl,vu,.none]}}
 exact tail_any (ops:=[.ref s3.heap.objs.size,v]) ht hT hg (by with_unfolding_all rfl)
end
def FZ(n:Nat)(i:Int):Option Nat:=if 0<=i then (if i<n then some i.toNat else none) else if -(n:Int)<=i then some (i+n).toNat else none
def zV{α:Type}(xs:List α)(i:Int):Option α:=(FZ xs.length i).bind λj=>xs[j]?
theorem Bp{n:Nat}{i:Int}{j:Nat}(h:FZ n i=some j):seqIndex? i n=some j/\j<n/\-(n:Int)<=i/\i<n:=by
 unfold FZ at h
 by_cases h0:0<=i
 ·rw[YA h0]at h
  by_cases h1:i<n
  ·rw[YA h1]at h
   have e:i.toNat=j:=Y0 h
   exact⟨by rw[seqIndex_of h0 h1,e],by omega,by omega,h1⟩
  ·rw[Yz h1]at h;cases h
 ·rw[Yz h0]at h
  by_cases h1 : -(n:Int)<=i
  ·rw[YA h1]at h
   have e:(i+n).toNat=j:=Y0 h
   exact⟨by rw[seqIndex_neg (by omega) h1,e],by omega,h1,by omega⟩
  ·rw[Yz h1]at h;cases h
theorem wQ{α:Type}{xs:List α}{i:Int}{v:α}(h:zV xs i=some v):∃j,seqIndex? i xs.length=some j/\xs[j]?=some v/\j<xs.length/\-(xs.length:Int)<=i/\i<xs.length:=by
 unfold zV at h
 cases e:FZ xs.length i with
 |none=>rw[e]at h;cases h
 |some j =>
  rw[e]at h
  obtain⟨h1,h2,h3,h4⟩:=Bp e
  exact⟨j,h1,h,h2,h3,h4⟩
theorem iB{α:Type}{xs:List α}{j:Nat}{v:α}(h:xs[j]?=some v):zV xs (j:Int)=some v:=by
 have hj:j<xs.length:=(YG.mp h).1
 have e:FZ xs.length (j:Int)=some j:=by
  unfold FZ
  rw[YA (by omega),YA (by omega)];simp
 unfold zV;rw[e];exact h
def wR(b:Expr):Prop:=∀o i,subscripted b false o i=operate [o,i] (getItem o i)
def K4(X:Cx)(r:R2):Prop :=
 ∀(value slice:Expr)(pins:List (Addr×Obj))(s:Shared)(σ:St)(H:Hp)(x y:V)(v u:Value)(Q:VK),Inv X pins σ H s->RelV x v->RelV y u->r x y H Q->subscripted slice false v u=operate [v,u] (getItem v u)->wpAny (model X.prog X.w) X.A (subscriptTail value slice v u) (EP X pins σ Q) X.xe s
def LZ(X:Cx)(id:String)(r:V->List V->Hp->VK->Prop):Prop :=
 ∀(pins:List (Addr×Obj))(s:Shared)(σ:St)(H:Hp)(x:V)(xs:List V)(v:Value)(us:List Value)(Q:VK),Inv X pins σ H s->RelV x v->Vals xs us->r x xs H Q->wpAny (model X.prog X.w) X.A (call (.builtin id) (v::us)) (EP X pins σ Q) X.xe s
section
variable{X:Cx}{a b:Expr}{ta tb:TE}{pos:Pos}
theorem sU{r:R2}(hr:K4 X r)(ha:PE X a ta)(hb:PE X b tb)(hs:wR b):PE X (.Subscript a b pos) (FW r ta tb):=by
 intro pins s σ H Q I h
 exact Subscript_ (Jb ha hb I h λv u s2 x y H2 I2 rx ry q=>hr a b pins s2 σ H2 x y v u Q I2 rx ry q (hs _ _))
def Jf(K:W.Frag):R2:=λx y H Q=>∃p xs i v,x=.ref p/\y=.int i/\aX K H p xs/\zV xs i=some v/\Q v H
def Jg(K:W.Frag):R2:=λx y H Q=>∃p xs i v,x=.ref p/\y=.int i/\bU K H p xs/\zV xs i=some v/\Q v H
def Ow:R2:=λx y H Q=>∃z i c,x=.str z/\y=.int i/\z.length<=sizeLine/\zV z.cps.toList i=some c/\Q (.str ⟨#[c]⟩) H
theorem GD:K4 X (Jf X.K):=by
 intro value slice pins s σ H x y v u Q I rx ry h hs
 obtain⟨p,xs,i,z,rfl,rfl,hq,he,q⟩:=h
 cases rx
 obtain⟨t,rfl⟩:=ry
 obtain⟨its,r,pl,hz⟩:=I.list hq
 obtain⟨j,h1,h2,h3,h4,h5⟩:=wQ he
 obtain⟨w,ew,rw'⟩:=r.get h2
 have hl:=r.length
 have hn:=pK
 have fin:EP X pins σ Q w s:=⟨z,H,I,rw',q⟩
 by_cases h0:0<=i
 ·have hj:i.toNat=j:=by
   rw[seqIndex_of h0 h5]at h1
   exact Y0 h1
  exact item_listR pl.isList h0 (by omega) (by rw[hj];simpa using ew) fin hs
 ·have hj:(i+(its.toArray.size:Int)).toNat=j:=by
   rw[seqIndex_neg (by omega) h4]at h1
   rw[YH,←hl]
   exact Y0 h1
  exact subscriptTail_builtinR (x:=w) pl.isList.typeIs slot_list_getitem.lookup
   (wpAny_getItem_list_neg (Q:=λr s'=>r=w/\EP X pins σ Q r s') pl.isList (by omega) (by rw[YH]<;>omega) (by omega) (by rw[hj];simpa using ew) ⟨rfl,fin⟩) hs
theorem Jh:K4 X (Jg X.K):=by
 intro value slice pins s σ H x y v u Q I rx ry h hs
 obtain⟨p,xs,i,z,rfl,rfl,hq,he,q⟩:=h
 cases rx
 obtain⟨t,rfl⟩:=ry
 obtain⟨its,r,pl,hz⟩:=I.tuple hq
 obtain⟨j,h1,h2,h3,h4,h5⟩:=wQ he
 obtain⟨w,ew,rw'⟩:=r.get h2
 have hl:=r.length
 have hn:=pK
 have fin:EP X pins σ Q w s:=⟨z,H,I,rw',q⟩
 exact subscriptTail_builtinR (x:=w) pl.typeIs slot_tuple_getitem.lookup
  (getItem_tuple (j:=j) (Q:=λr s'=>r=w/\EP X pins σ Q r s') pl (by omega) (by omega) (by rw[YH,←hl];exact h1) (by simpa using ew) ⟨rfl,fin⟩) hs
theorem sV:K4 X Ow:=by
 intro value slice pins s σ H x y v u Q I rx ry h hs
 obtain⟨z,i,c,rfl,rfl,hz,he,q⟩:=h
 obtain⟨t,rfl⟩:=rx
 obtain⟨t',rfl⟩:=ry
 obtain⟨j,h1,h2,h3,h4,h5⟩:=wQ he
 have hl:z.cps.toList.length=z.length:=by simp[Str.length]
 rw[hl]at h1 h4 h5
 have hn:=pK
 exact tail_any (typeIs_str s z t) slot_str_getitem.lookup (getItem_str (c:=c) (by
  have e1:decide (i < -(2 ^ 63:Int))=false:=YK (by omega)
  have e2:decide (i>=2 ^ 63)=false:=YK (by omega)
  rw[e1,e2,Bool.or_false]) (by rw[h1];simpa using h2) ⟨.str ⟨#[c]⟩,H,I.tok _,⟨_,rfl⟩,q⟩) hs
theorem Ak(its:List Value)(n j:Nat)(u:Value):Obj.mapSeq (·.setIfInBounds j u) {cls:=.type "list",data:=.seq its.toArray n}={cls:=.type "list",data:=.seq (its.set j u).toArray n}:=by
 simp[Obj.mapSeq]
theorem Inv.lst{pins:List (Addr×Obj)}{σ:St}{H:Hp}{s:Shared}{p:Addr}{xs:List V}(I:Inv X pins σ H s)(h:H p=some (.lst xs)):∃(its:List Value)(n:Nat),Vals xs its/\s.heap.get? p=some {cls:=.type "list",data:=.seq its.toArray n}/\xs.length<=sizeLine:=by
 obtain⟨z,its,n,r,e⟩:=I.hok p _ h
 exact⟨its,n,r,e,z⟩
theorem Inv.Ji{pins:List (Addr×Obj)}{σ:St}{H:Hp}{s:Shared}{p:Addr}{xs ys:List V}{its its':List Value}{n n':Nat}{f:Obj->Obj}(I:Inv X pins σ H s)(h:H p=some (.lst xs))(ho:s.heap.get? p=some {cls:=.type "list",data:=.seq its.toArray n})(hf:f {cls:=.type "list",data:=.seq its.toArray n}={cls:=.type "list",data:=.seq its'.toArray n'})(r:Vals ys its')(hz:ys.length<=sizeLine)(t:Nat):Inv X pins σ (upd H p (.lst ys)) {s with heap:=s.heap.update p f,toks:=t}:=by
 have e:(s.heap.update p f).get? p=some {cls:=.type "list",data:=.seq its'.toArray n'}:=by
  rw[Heap.get?_update_self f ho (by rw[hf]<;>rfl),hf]
 refine I.write (x:=p) (e:=p) (by rw[h];trivial) (.inl rfl) (λb u hb q=>(Heap.get?_update_other _ _ (ZI hb)).trans q) ⟨_,e⟩ ?_
 exact⟨hz,its',n',r,e⟩
def L0:V->V->V->Hp->(Hp->Prop)->Prop:=λo i v H Q=>∃p xs k j,o=.ref p/\i=.int k/\H p=some (.lst xs)/\FZ xs.length k=some j/\Q (upd H p (.lst (xs.set j v)))
theorem set_list:LJ X L0:=by
 intro pins s σ H o i v ov iv u Q I ro ri rv h
 obtain⟨p,xs,k,j,rfl,rfl,hp,hj,q⟩:=h
 cases ro
 obtain⟨t,rfl⟩:=ri
 obtain⟨its,n,r,ho,hz⟩:=I.lst hp
 obtain⟨h1,h2,h3,h4⟩:=Bp hj
 have hl:=r.length
 have hn:=pK
 have I':Inv X pins σ (upd H p (.lst (xs.set j v))) {s with heap:=s.heap.update p (Obj.mapSeq (·.setIfInBounds j u))} :=
  I.Ji hp ho (Ak its n j u) (r.set rv j) (by rw[ZA];exact hz) s.toks
 by_cases h0:0<=k
 ·have hk:k.toNat=j:=by
   rw[seqIndex_of h0 h4]at h1
   exact Y0 h1
  exact W.ki_setAt ho h0 (by omega) (by rw[YH,←hl];exact h4) (by rw[hk];exact⟨_,I',q⟩)
 ·have hk:(k+(its.toArray.size:Int)).toNat=j:=by
   rw[seqIndex_neg (by omega) h3]at h1
   rw[YH,←hl]
   exact Y0 h1
  exact W.ki_setBack ho (by omega) (by rw[YH,←hl];exact h3) (by omega) (by rw[hk];exact⟨_,I',q⟩)
def ji:V->Bool
 | .non=>true
 | .bl _=>true
 | .int _=>true
 | .str _=>true
 |_=>false
def Di:V->V->Bool
 | .non,.non=>true
 | .bl a,.bl b=>a==b
 | .bl a,.int b=>(if a then 1 else 0)==b
 | .int a,.bl b=>a==(if b then 1 else 0)
 | .int a,.int b=>a==b
 | .str a,.str b=>a==b
 |_,_=>false
theorem DP{A:Around}{s:Shared}{y x:V}{u v:Value}(ry:RelV y u)(rx:RelV x v)(fy:ji y=true)(fx:ji x=true):SeqAt.EqAt A s u v (Di y x):=by
 cases y with
 |non =>
  cases ry
  cases x with
  |non=>cases rx;exact SeqAt.EqAt.same _
  |bl b=>cases rx;exact SeqAt.EqAt.none_bool b
  |int b=>obtain⟨t,rfl⟩:=rx;exact SeqAt.EqAt.none_int b t
  |str b=>obtain⟨t,rfl⟩:=rx;exact SeqAt.EqAt.none_str b t
  |_=>exact absurd (show false=true from fx) YN
 |bl a =>
  cases ry
  cases x with
  |non=>cases rx;exact SeqAt.EqAt.bool_none a
  |bl b=>cases rx;exact SeqAt.EqAt.bool_bool a b
  |int b=>obtain⟨t,rfl⟩:=rx;exact SeqAt.EqAt.bool_int a b t
  |str b=>obtain⟨t,rfl⟩:=rx;exact SeqAt.EqAt.bool_str a b t
  |_=>exact absurd (show false=true from fx) YN
 |int a =>
  obtain⟨t',rfl⟩:=ry
  cases x with
  |non=>cases rx;exact SeqAt.EqAt.int_none a t'
  |bl b=>cases rx;exact SeqAt.EqAt.int_bool a t' b
  |int b=>obtain⟨t,rfl⟩:=rx;exact SeqAt.EqAt.int_int a t' b t
  |str b=>obtain⟨t,rfl⟩:=rx;exact SeqAt.EqAt.int_str a t' b t
  |_=>exact absurd (show false=true from fx) YN
 |str a =>
  obtain⟨t',rfl⟩:=ry
  cases x with
  |non=>cases rx;exact SeqAt.EqAt.str_none a t'
  |bl b=>cases rx;exact SeqAt.EqAt.str_bool a t' b
  |int b=>obtain⟨t,rfl⟩:=rx;exact SeqAt.EqAt.str_int a t' b t
  |str b=>obtain⟨t,rfl⟩:=rx;exact SeqAt.EqAt.str_str a t' b t
  |_=>exact absurd (show false=true from fx) YN
 |_=>exact absurd (show false=true from fy) YN
def GF(x:V)(u:Value):Bool:=match u with
 | .none=>Di .non x
 | .bool b=>Di (.bl b) x
 | .int i _=>Di (.int i) x
 | .str z _=>Di (.str z) x
 |_=>false
theorem DQ{x y:V}{u:Value}(r:RelV y u)(f:ji y=true):GF x u=Di y x:=by
 cases y with
 |non=>cases r;rfl
 |bl b=>cases r;rfl
 |int i=>obtain⟨t,rfl⟩:=r;rfl
 |str z=>obtain⟨t,rfl⟩:=r;rfl
 |_=>exact absurd (show false=true from f) YN
theorem wU{x:V}:∀{xs:List V}{us:List Value},Vals xs us->xs.all ji=true->us.any (GF x)=xs.any λy=>Di y x
 |_,_,.nil,_=>rfl
 |y::xs,u::us,.cons r t,f=>by
  rw[List.all_cons,Bool.and_eq_true]at f
  rw[List.any_cons,List.any_cons,DQ r f.1,wU t f.2]
theorem sW{A:Around}{s:Shared}{x:V}{v:Value}(rx:RelV x v)(fx:ji x=true):∀{xs:List V}{us:List Value},Vals xs us->xs.all ji=true->∀u∈us,SeqAt.EqAt A s u v (GF x u)
 |_,_,.nil,_=>λu hu=>by cases hu
 |y::xs,u::us,.cons r t,f=>λu' hu=>by
  rw[List.all_cons,Bool.and_eq_true]at f
  rcases Y7.mp hu with rfl|hu
  ·rw[DQ r f.1];exact DP r rx f.1 fx
  ·exact sW rx fx t f.2 u' hu
def RE(x:V)(xs:List V):Bool:=xs.any λy=>Di y x
def RG(K:W.Frag)(neg:Bool):R2:=λx y H Q=>∃p xs,y=.ref p/\(aX K H p xs\/bU K H p xs)/\ji x=true/\xs.all ji=true/\Q (.bl (if neg then !RE x xs else RE x xs)) H
theorem B7:lT X (compareOp .In) (RG X.K false):=by
 intro pins s σ H x y v u Q I rx ry h
 obtain⟨p,xs,rfl,hq,fx,fs,q⟩:=h
 cases ry
 rcases hq with hq|hq
 ·obtain⟨its,r,pl,hz⟩:=I.list hq
  refine SeqAt.in_listAt (GF x) pl.isList (λw hw=>sW rx fx r fs w (by simpa using hw)) ⟨.bl _,H,I,rfl,?_⟩
  rw[show its.toArray.any (GF x)=its.any (GF x) by simp,wU r fs]
  exact q
 ·obtain⟨its,r,pl,hz⟩:=I.tuple hq
  refine SeqAt.in_tupleAt (GF x) pl (λw hw=>sW rx fx r fs w (by simpa using hw)) ⟨.bl _,H,I,rfl,?_⟩
  rw[show its.toArray.any (GF x)=its.any (GF x) by simp,wU r fs]
  exact q
theorem nN:lT X (compareOp .NotIn) (λx y H Q=>∃i j,x=.str i/\y=.str j/\Q (.bl (!(!(Builtin.Str.occurrences j i 0 j.length 1).isEmpty))) H):=by
 intro pins s σ H x y v u Q I rx ry h
 obtain⟨i,j,rfl,rfl,q⟩:=h
 obtain⟨t,rfl⟩:=rx
 obtain⟨t',rfl⟩:=ry
 exact notIn_str ⟨.bl _,H,I,rfl,q⟩
theorem wV:fz X (.builtin "len") (λxs H Q=>∃p ys,xs=[.ref p]/\(aX X.K H p ys\/bU X.K H p ys)/\Q (.int ys.length) H):=by
 intro pins s σ H xs us Q I r h
 obtain⟨p,ys,rfl,hq,q⟩:=h
 obtain⟨u,rfl,rx⟩:=vals1 r
 cases rx
 have hn:=pK
 rcases hq with hq|hq
 ·obtain⟨its,r',pl,hz⟩:=I.list hq
  have hlen:=r'.length
  exact Calls.call_len_list pl.isList (by simp only[YH]<;>omega) ⟨.int ys.length,H,I.tok _,⟨s.toks+1,by rw[YH,hlen]⟩,q⟩
 ·obtain⟨its,r',pl,hz⟩:=I.tuple hq
  have hlen:=r'.length
  exact len_tuple pl (by simp only[YH]<;>omega) ⟨.int ys.length,H,I.tok _,⟨s.toks+1,by rw[YH,hlen]⟩,q⟩
theorem bI:fz X (.builtin "len") (λxs H Q=>∃z,xs=[.str z]/\z.length<=sizeLine/\Q (.int z.length) H):=by
 intro pins s σ H xs us Q I r h
 obtain⟨z,rfl,hz,q⟩:=h
 obtain⟨u,rfl,t,rfl⟩:=vals1 r
 have hn:=pK
 exact len_str (by omega) ⟨.int z.length,H,I.tok _,⟨_,rfl⟩,q⟩
theorem wW:fz X (.type "list") (λxs H Q=>∃p ys,xs=[.ref p]/\(aX X.K H p ys\/bU X.K H p ys)/\∀l,H l=none->Q (.ref l) (upd H l (.lst ys))):=by
 intro pins s σ H xs us Q I r h
 obtain⟨p,ys,rfl,hq,q⟩:=h
 obtain⟨u,rfl,rx⟩:=vals1 r
 cases rx
 have fin:∀(its:List Value),Vals ys its->ys.length<=sizeLine->∀(h':Heap)(c':Nat),(∀b o',s.heap.get? b=some o'->h'.get? b=some o')->h'.get? s.heap.objs.size=some {cls:=.type "list",dict:=none,data:=.seq its.toArray c',slots:=#[]}->EP X pins σ Q (.ref s.heap.objs.size) {s with heap:=h'}:=λits r' hz h' c' kp e =>
  ⟨.ref s.heap.objs.size,_,I.laid (t':=s.toks) kp (YB _) (show dj X.prog X.w _ h' _ (.lst ys) from⟨hz,its,c',r',e⟩),rfl,q _ (I.hok.fresh (YB _))⟩
 rcases hq with hq|hq
 ·obtain⟨its,r',pl,hz⟩:=I.list hq
  have hlen:=r'.length
  obtain⟨o,ho,hc,n,hd⟩:=pl.isList
  exact call_list_seq p (.inl rfl) ho hc hd (λh' c' kp e=>fin its r' hz h' c' kp e) (by simp only[YH]<;>omega)
 ·obtain⟨its,r',pl,hz⟩:=I.tuple hq
  have hlen:=r'.length
  obtain⟨o,ho,hc,n,hd⟩:=pl
  exact call_list_seq p (.inr rfl) ho hc hd (λh' c' kp e=>fin its r' hz h' c' kp e) (by simp only[YH]<;>omega)
def RH(K:W.Frag)(T:String)(x:V)(H:Hp):Prop:=match x with
 | .str _=>T="str"
 | .int _=>T="int"
 | .ref p=>(T="list"/\∃xs,aX K H p xs)\/(T="tuple"/\∃o,K.lookup p=some o/\o.cls=.type "tuple"/\o.dict=none)\/
   (T="dict"/\((∃kvs,H p=some (.dK kvs))\/∃kvs,H p=some (.dT kvs)))\/(T="set"/\∃S n,H p=some (.set S n))
 |_=>False
theorem DR{pins:List (Addr×Obj)}{σ:St}{H:Hp}{s:Shared}{T:String}{x:V}{v:Value}(I:Inv X pins σ H s)(r:RelV x v)(ty:RH X.K T x H):s.TypeIs v T/\∀a,v=.ref a->∃ob,s.heap.get? a=some ob/\ob.dict=none:=by
 cases x with
 |str z =>
  obtain⟨t,rfl⟩:=r
  cases(show T="str" from ty)
  exact⟨typeIs_str s z t,λ_ e=>nomatch e⟩
 |int i =>
  obtain⟨t,rfl⟩:=r
  cases(show T="int" from ty)
  exact⟨typeIs_int s i t,λ_ e=>nomatch e⟩
 |ref p =>
  cases r
  rcases ty with ⟨rfl,xs,hq⟩|⟨rfl,o,hk,hc,hd⟩|⟨rfl,hk⟩|⟨rfl,S,n,hk⟩
  ·obtain⟨its,_,pl,_⟩:=I.list hq
   refine⟨pl.isList.typeIs,λa e=>?_⟩
   cases e
   obtain⟨o,n,e,c,hd,_⟩:=pl
   exact⟨o,e,hd⟩
  ·refine⟨⟨o,I.pF p o hk,hc⟩,λa e=>?_⟩
   cases e
   exact⟨o,I.pF _ o hk,hd⟩
  ·have z:∃o,s.heap.get? p=some o/\o.ExactDict:=by
    rcases hk with ⟨kvs,hk⟩|⟨kvs,hk⟩
    ·obtain⟨_,_,_,_,o,_,_,e,ex,_⟩:=I.hok p _ hk
     exact⟨o,e,ex⟩
    ·obtain⟨_,_,_,_,o,_,_,e,ex,_⟩:=I.hok p _ hk
     exact⟨o,e,ex⟩
   obtain⟨o,e,ex⟩:=z
   refine⟨⟨o,e,ex.1⟩,λa e2=>?_⟩
   cases e2
   exact⟨o,e,ex.2.1⟩
  ·obtain⟨o,_,_,_,e,ex,_⟩:=I.hok p _ hk
   refine⟨⟨o,e,ex.1⟩,λa e2=>?_⟩
   cases e2
   exact⟨o,e,ex.2.1⟩
 |_=>exact False.elim ty
def RI(K:W.Frag)(T:String)(r:V->List V->Hp->VK->Prop)(to:TE)(t:TA):TE:=λσ H Q=>to σ H λx H1=>RH K T x H1/\t σ H1 λxs H2=>r x xs H2 Q
variable{o e:Expr}{es:List Expr}{to:TE}{t:TA}{name:Str}{apos cpos:Pos}{T id:String}{r:V->List V->Hp->VK->Prop}
theorem L1(pa:PlainAttrs T)(slot:Slot T name id)(hty:typeOf (.builtin id)=pure (.type "method_descriptor"))(hm:LZ X id r)(ho:PE X o to)(ha:PA X (e::es) t)(hbase:attributeBase o name X.env (eval o X.env)=eval o X.env:=by rfl)(hfew:((backTo cpos (starEach (e::es) X.env)).all (λx=>!x.1)&&(backToKw cpos (keywordEach [] X.env)).all (λx=>x.1.isSome)
   && decide ((e::es).length+([]:List Keyword).length+(if ([]:List Keyword).isEmpty then 0 else 1)<30))=true:=by rfl)(hline:(apos.endLine==cpos.line)=true:=by rfl)(hs:starEach (e::es) X.env=(false,eval e X.env)::starEach es X.env:=by rfl)(hplain:(backTo cpos (starEach es X.env)).any (·.1)=false:=by rfl):PE X (.Call (.Attribute o name apos) (e::es) [] cpos) (RI X.K T r to t):=by
 intro pins s σ H Q I h
 refine wpAny_Call_method_late hbase hfew hline rfl (bV (ho pins s σ H _ I h) λv s1 ⟨x,H1,I1,r1,ty,q1⟩=>?_)
 obtain⟨h1,h2⟩:=DR I1 r1 ty
 refine⟨T,id,pa,slot,hty,h1,h2,?_⟩
 have hA:=ha cpos pins s1 σ H1 _ I1 q1
 rw[hs]at hA⊢
 refine Calls.callWith_builtin (by show(false||(backTo cpos (starEach es X.env)).any (·.1))=false;rw[hplain]<;>rfl) (Calls.evalArgs_plain ?_)
 exact bV hA λus s2 ⟨vs,H2,I2,r2,q2⟩=>hm pins s2 σ H2 x vs v us Q I2 r1 r2 q2
end
def RJ(X:Cx)(id:String)(r:V->List V->Hp->VK->Prop):Prop :=
 ∀(pins:List (Addr×Obj))(s:Shared)(σ:St)(H:Hp)(x:V)(xs:List V)(v:Value)(us:List Value)(Q:VK),Inv X pins σ H s->RelV x v->Vals xs us->r x xs H Q->wpAny (model X.prog X.w) X.A (call (.builtin id) (v::us)) (EP X pins σ Q) X.xe s
theorem Vals.one:∀{x:V}{us:List Value},Vals [x] us->∃u,us=[u]/\RelV x u
 |_,_,.cons r .nil=>⟨_,rfl,r⟩
theorem Vals.reverse{xs:List V}{us:List Value}(h:Vals xs us):Vals xs.reverse us.reverse:=by
 induction h with
 |nil=>exact .nil
 |cons r t ih=>rw[List.reverse_cons,List.reverse_cons];exact Vals.append ih (.cons r .nil)
section
variable{X:Cx}{pins:List (Addr×Obj)}{σ:St}{H:Hp}{s:Shared}{l b:Addr}{xs ys zs:List V}
theorem Inv.L3{its its':List Value}{n:Nat}{f:Array Value->Array Value}{t':Nat}(I:Inv X pins σ H s)(hH:H l=some (.lst xs))(e:s.heap.get? l=some {cls:=.type "list",data:=.seq its.toArray n})(hf:f its.toArray=its'.toArray)(hv:Vals ys its')(hz:ys.length<=sizeLine):Inv X pins σ (upd H l (.lst ys)) {s with heap:=s.heap.update l (Obj.mapSeq f),toks:=t'}:=by
 have q:=PySem.IsL.update e f
 rw[hf]at q
 refine I.write (x:=l) (e:=l) (by rw[hH];exact trivial) (.inl rfl) (λb' u hb hu=>(Heap.get?_update_other s.heap (Obj.mapSeq f) (ZI hb)).trans hu) ⟨_,q⟩ ?_
 exact⟨hz,its',_,hv,q⟩
theorem Inv.Jj{its:List Value}{t':Nat}(I:Inv X pins σ H s)(hv:Vals ys its)(hz:ys.length<=sizeLine):Inv X pins σ (upd H s.heap.objs.size (.lst ys)) {s with heap:=s.heap.push {cls:=.type "list",data:=.seq its.toArray},toks:=t'} :=
 I.laid (λ_ _ q=>YI _ q) (YB _) ⟨hz,its,0,hv,Zi _ rfl⟩
theorem Inv.fresh(I:Inv X pins σ H s):H s.heap.objs.size=none:=I.hok.fresh (YB _)
theorem Inv.DS(I:Inv X pins σ H s)(hH:H l=some (.lst xs)):xs.length<=sizeLine/\∃(its:List Value)(n:Nat),Vals xs its/\xs.length=its.length/\s.heap.get? l=some {cls:=.type "list",data:=.seq its.toArray n}:=by
 obtain⟨z,its,n,r,e⟩:=I.hok l _ hH
 exact⟨z,its,n,r,r.length,e⟩
theorem DT{n:Nat}(h:n<=sizeLine):Builtin.List.listTooLong n=false:=by
 unfold Builtin.List.listTooLong
 exact YK (by omega)
end
section
variable{X:Cx}
def GG:V->List V->Hp->VK->Prop:=λx vs H Q=>∃l xs y,x=.ref l/\vs=[y]/\H l=some (.lst xs)/\xs.length<sizeLine/\Q .non (upd H l (.lst (xs++[y])))
theorem bL:RJ X "list.append" GG:=by
 intro pins s σ H x vs v us Q I rx rv h
 obtain⟨l,xs,y,rfl,rfl,hH,hz,q⟩:=h
 cases rx
 obtain⟨u,rfl,ru⟩:=rv.one
 obtain⟨z,its,n,r,hl,e⟩:=I.DS hH
 refine call_meets F.slot_list_append ⟨_,e,rfl⟩ F.entry_list_append (F.args_list_append_2 _ _) (PySem.list_append l its.toArray n u (by rw[YH];omega)) ⟨e,?_⟩
 refine⟨.non,_,I.L3 (its':=its++[u]) hH e (by simp) (r.append (.cons ru .nil)) ?_,rfl,q⟩
 rw[YE,List.length_singleton]
 omega
def GH:V->List V->Hp->VK->Prop:=λx vs H Q=>∃l b xs zs,x=.ref l/\vs=[.ref b]/\H l=some (.lst xs)/\H b=some (.lst zs)/\xs.length+zs.length<=sizeLine/\Q .non (upd H l (.lst (xs++zs)))
theorem vN:RJ X "list.extend" GH:=by
 intro pins s σ H x vs v us Q I rx rv h
 obtain⟨l,b,xs,zs,rfl,rfl,hH,hB,hz,q⟩:=h
 cases rx
 obtain⟨u,rfl,ru⟩:=rv.one
 cases ru
 obtain⟨z,its,n,r,hl,e⟩:=I.DS hH
 obtain⟨z2,its2,n2,r2,hl2,e2⟩:=I.DS hB
 have hsz:its.toArray.size+its2.toArray.size<=sizeLine:=by rw[YH,YH];omega
 have L4:¬(!its.toArray.isEmpty&&Builtin.List.listTooLong (its.toArray.size+its2.toArray.size))=true:=by
  rw[DT hsz,Bool.and_false]
  exact YN
 refine call_meets F.slot_list_extend ⟨_,e,rfl⟩ F.entry_list_extend (F.args_list_extend_2 _ _)
  (AutoSeq1.list_extend_list_list_0 l its.toArray n b its2.toArray n2 L4 (by rw[YH];omega) (by omega)) ⟨e,e2,?_⟩
 refine⟨.non,_,I.L3 (its':=its++its2) hH e (by simp) (r.append r2) ?_,rfl,q⟩
 rw[YE]
 omega
def Ox:R2:=λx y H Q=>∃l b xs zs,x=.ref l/\y=.ref b/\H l=some (.lst xs)/\H b=some (.lst zs)/\xs.length+zs.length<=sizeLine/\∀p,H p=none->Q (.ref p) (upd H p (.lst (xs++zs)))
theorem Jk:lT X (binaryOp .Add) Ox:=by
 intro pins s σ H x y v u Q I rx ry h
 obtain⟨l,b,xs,zs,rfl,rfl,hH,hB,hz,q⟩:=h
 cases rx
 cases ry
 obtain⟨z,its,n,r,hl,e⟩:=I.DS hH
 obtain⟨z2,its2,n2,r2,hl2,e2⟩:=I.DS hB
 refine PySem.P.add_list e e2 ?_ (by rw[YH,YH];omega)
 have ea:its.toArray++its2.toArray=(its++its2).toArray:=by simp
 rw[ea]
 exact⟨.ref _,_,I.Jj (t':=s.toks) (r.append r2) (by rw[YE];omega),rfl,q _ I.fresh⟩
end
section
variable{prog:Program}{w:World}{A:Around}{E:Value->Shared->Prop}{s:Shared}
set_option maxRecDepth 100000 in
end
section
variable{X:Cx}
end
end L2
namespace Att
open PySem PySem.W PySem.Calls PyProof.Rows
theorem qS{P:Params}{h:Heap}:∀(ns:List Int)(vs:List Value),WellAll P h vs (ns.map WData.int)->IntsAre vs ns:=by
 intro ns
 induction ns with
 |nil =>
  intro vs w
  rw[List.map_nil]at w
  cases w
  exact .nil
 |cons n ns ih =>
  intro vs w
  rw[Zl]at w
  cases w with
  |cons a b =>
   cases a
   exact .cons _ _ (ih _ b)
theorem B8{l:OpenLaw}{n:Nat}(hn:l.most=some n){P:Params}{h:Heap}{args:List WData}{vals:List Value}(hpre:l.row.toRowW.claim.pre args=true)(hwl:WellAll P h vals args):∃a vs ns,vals=[Value.ref a]/\args=[WData.list (ns.map WData.int)]/\h.get? a=some {cls:=.type "list",data:=.seq vs.toArray}/\IntsAre vs ns/\ns.length<=n:=by
 have hsh:WShape.hasAll [] args [.list .int]=true:=(pre_splitW hpre).1
 have hc:l.pre.holds [] {args:=args}=true:=(pre_splitW hpre).2
 obtain⟨d,r,rfl,h1,h2⟩:=hasAllW_cons hsh
 obtain rfl:=hasAllW_nil h2
 obtain⟨xs,rfl,h3⟩:=hasW_list h1
 obtain⟨ns,rfl⟩:=items_int h3
 have hlen:ns.length<=n:=by
  unfold OpenLaw.pre at hc
  have h4:(WTm.not (.lt (.lit (.int (n:Int))) (.len (.arg 0)))).holds [] {args:=[.list (ns.map .int)]}=true:=by
   have h4:=(holds_andW hc).1
   rw[hn]at h4
   exact h4
  have h5:=condW_of h4 (w_not (w_lt w_lit (w_len_list (w_arg rfl))))
  rw[YC]at h5
  refine Nat.le_of_not_lt λq=>?_
  have q':(n:Int)<((ns.length:Nat):Int):=by omega
  first
   | (rw[YJ q']at h5;exact absurd h5 (by decide))
   | (simp at h5;omega)
 cases hwl with
 |cons w1 w2 =>
  cases w2
  cases w1 with
  |list ho hall=>exact⟨_,_,ns,rfl,rfl,ho,qS ns _ hall,hlen⟩
theorem B9(l:OpenLaw)(args:List WData):l.row.toRowW.claim.post args (.bool true) args=true :=
 postW_of (r:=l.row.toRowW) (X:=(true==true))
  (show WShape.has [] (.bool true) .bool=true by first|rfl|decide|simp[WShape.has,WShape.arms,WShape.armsAll])
  (show(WTm.eq .res (.lit (.bool true))).value [] {args:=args,res:=some (.bool true),after:=args}=some (.bool (true==true)) from w_eq_bool (w_res rfl) w_lit) rfl
theorem yK{l:OpenLaw}{n:Nat}{q:Program}{loose:List Str}{XP:(Str->Option Value)->Heap->Prop}{YP:World->Heap->Prop}{d:DefRec}(hn:l.most=some n)(hdf:d.params.defaults=[])(call:∀(w:World)(s₀ s₁:Shared)(mg mb:Str->Option Value)(fa:Addr)(o:Obj)(pm cd doc:Value)(a:Addr)(vs:List Value)(ns:List Int),Ground q loose [] XP w s₀ mg mb s₁.heap->YP w s₁.heap->s₁.heap.get? fa=some o->o.data=.func (docDef d.name d.params d.body d.scope pm cd doc)->s₁.heap.CodeRec cd d.name->mg d.name=some (.ref fa)->s₁.heap.get? a=some {cls:=.type "list",data:=.seq vs.toArray}->IntsAre vs ns->ns.length<=n->s₁.gens = #[]->codeAny (model l.prog w) callerA (.call (.ref fa) ⟨[.ref a],[]⟩) (λr s'=>r=.ok (.ret (.bool true))/\OldK s₁.heap s'.heap/\s'.os=s₁.os/\AllBare s'.gens) s₁):WalkO q loose XP YP l.row.toRowW d [] (λf vs=>PySem.call f vs):=by
 intro w s₀ s₁ mg mb G Y fa o pm cd doc dV kV ho hd hcd hD hmg hg args vals as hpre hlay hrd hwl hlo
 obtain rfl:dV=.none:=Dflts.none hD hdf
 obtain rfl:kV=.none:=Dflts.noKw hD
 obtain⟨a,vs,ns,rfl,rfl,hobj,hints,hlen⟩:=B8 hn hpre hwl
 refine enter_call (codeAny_mono (call w s₀ s₁ mg mb fa o pm cd doc a vs ns G Y ho (fd_plain hd) hcd hmg hobj hints hlen hg) λr s' hq=>?_)
 obtain⟨rfl,h2,h3,h4⟩:=hq
 exact⟨.inl ⟨.bool true,.bool true,[],rfl,λ_=>rfl,.bool true,B9 l _,λ_=>⟨List.Pairwise.nil,λ_ hm=>(nomatch hm)⟩⟩,h2,h3,h4⟩
section
variable{prog:Program}{w:World}{A:Around}{E:Value->Shared->Prop}{s:Shared}{K:Frag}
end
end Att
namespace L2
open PySem PySem.Spec PyProof.Rows
theorem vO:∀{vs:List Value}{ns:List Int},IntsAre vs ns->Vals (ns.map V.int) vs
 |_,_,.nil=>.nil
 |_,_,.cons n t h=>.cons ⟨t,rfl⟩ (vO h)
def Jl(H:Hp):Prop:=∀b,H b=none\/∃o xs,H b=some (.zZ o (.lst xs))
theorem DU{P:Program}{w:World}{K:W.Frag}{mg mb:Str->Option Value}{CX:Dh}{k:Nat}{fa a:Addr}{fd:FuncData}{x:Str}{sp:Sp}{s₁:Shared}{vs:List Value}{ns:List Int}(KX:K.In s₁.heap)(hns:s₁.heap.Ns mainGlobals mg)(hb:s₁.heap.Ns builtinsNs mb)(TX:∀x:Str,x ≠ "__name__"->mb x=bootBuiltins x)(hlim:s₁.heap.NoLimit)(hg:s₁.gens = #[])(ha:s₁.heap.get? a=some {cls:=.type "list",data:=.seq vs.toArray})(hi:IntsAre vs ns)(hl:ns.length<=sizeLine)(hr:eg k callerA)(F:∀base:Heap,K.In base->base.Ns mainGlobals mg->bD P w K mg base CX k fa fd [x] sp)(hbind:∀(s:Shared)(u:Value),BindsTo s fd ⟨[u],[]⟩ [(x,u)])(FY:∀H:Hp,Jl H->aX K H a (ns.map V.int)->sp [.ref a] H (λv _=>v=.bl true) λ_ _ _=>False)(Oz:∀H e s',CX [] H s₁ (λ_ _ _=>False) e s'->False):codeAny (model P w) callerA (.call (.ref fa) ⟨[.ref a],[]⟩) (λr s'=>r=.ok (.ret (.bool true))/\OldK s₁.heap s'.heap/\s'.os=s₁.os/\AllBare s'.gens) s₁:=by
 have rv:=vO hi
 have OA:=hi.length
 have core:∀H:Hp,Jl H->aX K H a (ns.map V.int)->qE P w H s₁.heap->(∀b,H b≠none->b=a)->(H a≠none->K.lookup a=none)->codeAny (model P w) callerA (.call (.ref fa) ⟨[.ref a],[]⟩) (λr s'=>r=.ok (.ret (.bool true))/\OldK s₁.heap s'.heap/\s'.os=s₁.os/\AllBare s'.gens) s₁:=by
  intro H hO hS hok hA hK
  have Bq:∀{b:Addr}{o:Obj},s₁.heap.get? b=some o->H b=none->(wK s₁.heap H).get? b=some o:=λe n=>Dt e n
  have LX:∀{b:Addr}{o:Obj}{es:Array DictEntry}{ep:Nat},s₁.heap.get? b=some o->o.data=.dict es ep->H b=none:=λ{b o es ep} e d=>by
   cases q:H b with
   |none=>rfl
   |some u =>
    have e':b=a:=hA b (by rw[q];simp)
    subst e'
    rw[ha]at e;cases e
    have d':Data.seq vs.toArray _=Data.dict es ep:=d
    cases d'
  have NJ:∀{b:Addr}{m:Str->Option Value},s₁.heap.Ns b m->(wK s₁.heap H).Ns b m:=λ{b m} ⟨o,es,ep,e,d,r⟩=>⟨o,es,ep,Bq e (LX e d),d,r⟩
  have RK:K.In (wK s₁.heap H):=λb o e=>Bq (KX b o e) (by
   cases q:H b with
   |none=>rfl
   |some u =>
    have e':b=a:=hA b (by rw[q];simp)
    subst e'
    rw[hK (by rw[q];simp)]at e;cases e)
  have hM:Mod K mg (wK s₁.heap H):=⟨RK,NJ hns,⟨mb,NJ hb,TX⟩,let ⟨mc,h1,h2⟩:=hlim;⟨mc,NJ h1,h2⟩⟩
  have e0:Ah P w K mg (wK s₁.heap H) callerA [] s₁ H:=⟨rfl,hM,λb o e=>Gj e,Nat.le_of_eq (BW _ _),trivial,λb hb=>absurd (show b∈([]:List Addr) from hb) (by simp),hok,.of_eq hg⟩
  refine codeAny_mono ((F _ RK (NJ hns)).run callerA [] s₁ H ⟨[.ref a],[]⟩ [.ref a] [.ref a] _ _ hr e0 (hbind s₁ (.ref a)) (.cons rfl .nil) (FY H hO hS)) λr s' h=>?_
  cases r with
  |error e=>exact(Oz H e s' h).elim
  |ok fl =>
   cases fl with
   |next=>exact False.elim h
   |brk=>exact False.elim h
   |cont=>exact False.elim h
   |ret u =>
    obtain⟨v,H',os,bare,un,OB,r',q⟩:=h
    have q':v=.bl true:=q
    subst q'
    obtain rfl:u=Value.bool true:=r'
    refine⟨O,OldK.of_keep λb o e=>?_,os,bare⟩
    cases q:H b with
    |none=>exact un.keep b o e q (by intro z;exact absurd (show b∈([]:List Addr) from z) (by simp)) (by simp)
    |some u =>
     rcases hO b with z|⟨ob,xs,z⟩
     ·rw[q]at z;cases z
     ·have z2:=un.wJ b ob _ z
      obtain⟨e1,_⟩:=hok b _ z
      obtain⟨e2,_⟩:=OB b _ z2
      rw[e]at e1;cases e1
      exact e2
 cases hk:K.lookup a with
 |some o =>
  have e:=KX a o hk
  rw[ha]at e
  cases e
  refine core (λ_=>none) (λ_=>.inl rfl) (.inr ⟨_,vs.toArray,_,hk,rfl,rfl,rfl,by rw[YH,OA];exact hl,by simpa using rv⟩) (λb u z=>by have z':(none:Option HO)=some u:=z;cases z') (λb z=>absurd rfl z) λz=>absurd rfl z
 |none =>
  refine core (λb=>if b=a then some (.zZ {cls:=.type "list",data:=.seq vs.toArray} (.lst (ns.map V.int))) else none) (λb=>?_) (.inl (.inr ⟨{cls:=.type "list",data:=.seq vs.toArray},YA rfl⟩)) (λb u z=>?_) (λb z=>?_) λ_=>hk
  ·by_cases hb:b=a
   ·exact .inr ⟨_,_,YA hb⟩
   ·exact .inl (Yz hb)
  ·by_cases hb:b=a
   ·have z':=(YA hb).symm.trans z
    cases z'
    subst hb
    exact⟨ha,by rw[YC];exact hl,vs,_,rv,ha⟩
   ·have z':=(Yz hb).symm.trans z
    cases z'
  ·by_cases hb:b=a
   ·exact hb
   ·exact absurd (Yz hb) z
theorem GI{l:W.OpenLaw}{n k:Nat}{q:Program}{loose:List Str}{XP:(Str->Option Value)->Heap->Prop}{YP:World->Heap->Prop}{d:DefRec}{K:Params->W.Frag}{CX:World->Dh}{sp:World->Sp}{x:Str}(hn:l.most=some n)(hn2:n<=sizeLine)(hdf:d.params.defaults=[])(hr:eg k callerA)(hY:∀(w:World)(h:Heap),YP w h->(K w.params).In h)(F:∀(w:World)(mg:Str->Option Value)(fa:Addr)(h:Heap),(K w.params).In h->h.Ns mainGlobals mg->mg d.name=some (.ref fa)->∃fd:FuncData,(∀(s:Shared)(u:Value),BindsTo s fd ⟨[u],[]⟩ [(x,u)])/\∀base:Heap,(K w.params).In base->base.Ns mainGlobals mg->bD l.prog w (K w.params) mg base (CX w) k fa fd [x] (sp w))(FY:∀(w:World)(H:Hp)(a:Addr)(ns:List Int),ns.length<=n->Jl H->aX (K w.params) H a (ns.map V.int)->sp w [.ref a] H (λv _=>v=.bl true) λ_ _ _=>False)(Oz:∀(w:World)(H:Hp)(s:Shared)(e:Value)(s':Shared),CX w [] H s (λ_ _ _=>False) e s'->False):W.WalkO q loose XP YP l.row.toRowW d [] (λf vs=>PySem.call f vs):=by
 refine Att.yK hn hdf λw s₀ s₁ mg mb fa o pm cd doc a vs ns G Y ho hd hcd hmg hobj hints hlen hg=>?_
 have KX:=hY w _ Y
 obtain⟨fd,hb,hF⟩:=F w mg fa _ KX G.T.g hmg
 exact DU KX G.T.g G.T.b G.T.builtins G.T.nolimit hg hobj hints (YU hlen hn2) hr hF hb (λH hO hS=>FY w H a ns hlen hO hS) λH e s'=>Oz w H s₁ e s'
def inClass(s:Stmt)(j:Nat):Stmt:=match s with
 | .ClassDef _ _ _ body _ _ _ _ _ _ _=>body.getD j (.Pass ⟨0,0,0,0⟩)
 |_=>.Pass ⟨0,0,0,0⟩
def bZ(s:Stmt):Arguments:=match s with
 | .FunctionDef _ a _ _ _ _ _ _ _ _=>a
 |_=>{posonlyargs:=[],args:=[],vararg:=none,kwonlyargs:=[],kw_defaults:=[],kwarg:=none,defaults:=[]}
def bN(s:Stmt):List Stmt:=match s with
 | .FunctionDef _ _ b _ _ _ _ _ _ _=>b
 |_=>[]
def aq(s:Stmt):Scope:=match s with
 | .FunctionDef _ _ _ _ _ _ sc _ _ _=>sc
 |_=>{kind:=.function,names:=[],isGenerator:=false,isCoroutine:=false}
abbrev fT:Dh:=λ_ _ _ _ _ _=>False
abbrev E0:XK:=λ_ _ _=>False
theorem gK{X:Cx}:Passes fT X E0:=λ_ _ _ _ _ _ _ h=>h.elim
structure fu(K:W.Frag)(x qual:Str)(st:Stmt)(f:Addr)(fd:FuncData):Prop where
 ex:∃(oc:Value)(od:Option Addr)(kV doc pm:Value)(an:Option Addr)(cdv ct:Value)(osl:Array (Option Value)),fd=W.fnOf x qual (bZ st) (bN st) (aq st) .none kV doc pm an cdv ct/\K.lookup f=some ⟨oc,od,.func fd,osl⟩/\W.codeIn K cdv qual=true
 kp:W.keepIn K (.ref f)=true
section
variable{P:Program}{w:World}{K:W.Frag}{mg:Str->Option Value}{base:Heap}
theorem fu.ok{x qual:Str}{st:Stmt}{f:Addr}{fd:FuncData}{N ps:List Str}{k:Nat}{sp:Sp}(F:fu K x qual st f fd)(S:aG N ps (aq st))(len:∀vs H Q E,sp vs H Q E->vs.length=ps.length)(hbody:∀(cdv:Value)(A:Around)(outer:List Env)(s:Shared)(H:Hp)(vs:List V)(Q:VK)(E:XK),eg k (A.deeper (envOfC qual (aq st) s.heap.objs.size f cdv))->sp vs H Q E->∃t,Bg (Aj fT P w K mg base N qual (aq st) f cdv A outer s H E).K2 (bN st) t/\t {nx:=λ_ H'=>Q .non H',rt:=Q} (start N vs) H):bD P w K mg base fT (k+1) f fd ps sp:=by
 obtain⟨oc,od,kV,doc,pm,an,cdv,ct,osl,rfl,lk,hcd⟩:=F.ex
 refine Im lk hcd S len λA outer s H vs Q E hr FY=>?_
 obtain⟨t,h,q⟩:=hbody cdv A outer s H vs Q E hr FY
 exact⟨t,h.K2,q⟩
theorem fu.binds{x qual:Str}{st:Stmt}{f:Addr}{fd:FuncData}{ps:List Str}(F:fu K x qual st f fd)(h:∀(kV doc pm:Value)(an:Option Addr)(cdv ct:Value)(us:List Value),us.length=ps.length->bindArgs (W.fnOf x qual (bZ st) (bN st) (aq st) .none kV doc pm an cdv ct) ⟨us,[]⟩=pure (ps.zip us)):Binds K fd ps []:=by
 obtain⟨oc,od,kV,doc,pm,an,cdv,ct,osl,rfl,lk,hcd⟩:=F.ex
 exact .all (h kV doc pm an cdv ct)
theorem DV{x qual:Str}{st:Stmt}{f:Addr}{oc:Value}{od an:Option Addr}{osl:Array (Option Value)}{kV doc pm cdv ct:Value}(l:K.lookup f=some ⟨oc,od,.func (W.fnOf x qual (bZ st) (bN st) (aq st) .none kV doc pm an cdv ct),osl⟩)(c:W.codeIn K cdv qual=true)(k:W.keepIn K (.ref f)=true):fu K x qual st f (W.fnOf x qual (bZ st) (bN st) (aq st) .none kV doc pm an cdv ct):=⟨⟨oc,od,kV,doc,pm,an,cdv,ct,osl,rfl,l,c⟩,k⟩
end
theorem bh{A:Around}{k:Nat}(hr:eg k A):A.units+1<cLine:=YO (Nat.add_le_add_left (by decide:1<=64) _) hr.units
section
variable{X:Cx}
theorem pv(i:Nat){x:Str}{pos:Pos}(hN:X.N[i]?=some x:=by rfl)(hv:N7 X.env.scope x:=by first|exact Or.inl rfl|exact Or.inr (Or.inl rfl)|exact Or.inr (Or.inr rfl))(hd:(x==("__debug__":Str))=false:=by decide)(hcd:(x==("__classdict__":Str))=false:=by decide):PE X (.Name x pos) (Gn i):=IT hN hv hd hcd
end
theorem cU{A B:Prop}(h:B):if false=true then A else B:=by
 rw[Yz YN]
 exact h
theorem kC{A B:Prop}(h:A):if true=true then A else B:=by
 rw[YA rfl]
 exact h
theorem bY{c A B:Prop}[Decidable c](h1:c->A)(h2:¬c->B):if c then A else B:=by
 by_cases h:c
 ·rw[YA h]
  exact h1 h
 ·rw[Yz h]
  exact h2 h
theorem L5{c A B:Prop}[Decidable c](hc:c)(h:B):if (!decide c)=true then A else B:=by
 rw[YJ hc]
 exact cU h
def aF(H H':Hp):Prop:=∀b o,H b=some o->H' b=some o
theorem aF.refl(H:Hp):aF H H:=λ_ _ h=>h
theorem aF.trans{H H1 H2:Hp}(a:aF H H1)(b:aF H1 H2):aF H H2:=λc o h=>b c o (a c o h)
theorem aF.free{H H':Hp}(e:aF H H'){l:Addr}(h:H' l=Option.none):H l=Option.none:=by
 cases q:H l with
 |none=>rfl
 |some o =>
  rw[e l o q]at h
  cases h
theorem aF.seq{K:W.Frag}{H H':Hp}{a:Addr}{xs:List V}(e:aF H H')(h:aX K H a xs):aX K H' a xs:=by
 rcases h with (h|⟨o,h⟩)|h
 ·exact .inl (.inl (e _ _ h))
 ·exact .inl (.inr ⟨o,e _ _ h⟩)
 ·exact .inr h
end L2
set_option maxHeartbeats 4000000
namespace L2
open PySem PySem.Spec PyProof.Rows
def cP(env:Env):List (Str×NameKind)->List (Str×Addr)->List (Str×Addr)
 |[],cs=>cs
 | (n,k)::r,cs=>cP env r (if k==.free then (n,(env.cells.lookup n).getD 0)::cs else cs)
theorem iU{scope:Scope}{env:Env}(h:∀n,(n,NameKind.free)∈scope.names->∃c,env.cells.lookup n=some c):closureFor scope env=pure (cP env scope.names []):=by
 simp only[closureFor]
 have key:∀(l:List (Str×NameKind))(cs:List (Str×Addr)),(∀n,(n,NameKind.free)∈l->∃c,env.cells.lookup n=some c)->(forIn l cs (λx r=>if (x.2==NameKind.free)=true then (cellOf env x.1 >>= λa=>pure (ForInStep.yield ((x.1,a)::r))) else pure (ForInStep.yield r)):Sem (List (Str×Addr)))=pure (cP env l cs):=by
  intro l
  induction l with
  |nil=>intro cs _;rfl
  |cons x l ih =>
   intro cs hl
   obtain⟨n,k⟩:=x
   have hl':∀n,(n,NameKind.free)∈l->∃c,env.cells.lookup n=some c:=λn hn=>hl n (YS _ hn)
   rw[List.forIn_cons]
   by_cases hk:k=.free
   ·subst hk
    obtain⟨c,hc⟩:=hl n Y6
    have e1:cellOf env n=pure c:=by unfold cellOf;rw[hc]
    simp only[beq_self_eq_true,if_true,e1,pure_bind]
    rw[ih _ hl']
    simp only[cP,beq_self_eq_true,if_true,hc,Option.getD_some]
   ·have hb:(k==NameKind.free)=false:=by simpa using hk
    simp only[hb,Zj,ZS,pure_bind]
    rw[ih _ hl']
    simp only[cP,hb,Zj,ZS]
 exact(congrArg (λz=>z >>= λr=>pure r) (key scope.names [] h)).trans rfl
theorem gM{env:Env}:∀(l:List (Str×NameKind))(cs:List (Str×Addr)),(∀n,(n,NameKind.free)∈l->∃c,env.cells.lookup n=some c)->(∀x c,cs.lookup x=some c->env.cells.lookup x=some c)->∀x c,(cP env l cs).lookup x=some c->env.cells.lookup x=some c
 |[],cs,_,h,x,c,e=>h x c e
 | (n,k)::r,cs,hl,h,x,c,e=>by
  refine gM r _ (λn hn=>hl n (YS _ hn)) ?_ x c e
  intro y d hy
  by_cases hk:(k==NameKind.free)=true
  ·rw[YA hk]at hy
   have hk':k=.free:=by simpa using hk
   subst hk'
   obtain⟨c',hc'⟩:=hl n Y6
   rw[hc',Option.getD_some,Zr]at hy
   cases OC:y==n with
   |true =>
    rw[OC]at hy
    have:y=n:=by simpa using OC
    subst this
    rw[hc'];exact hy
   |false=>rw[OC]at hy;exact h y d hy
  ·rw[Yz hk]at hy;exact h y d hy
theorem fV{env:Env}:∀(l:List (Str×NameKind))(cs:List (Str×Addr))(x:Str),((x,NameKind.free)∈l\/∃c,cs.lookup x=some c)->∃c,(cP env l cs).lookup x=some c
 |[],cs,x,h=>by
  rcases h with h|h
  ·cases h
  ·exact h
 | (n,k)::r,cs,x,h=>by
  refine fV r _ x ?_
  rcases h with h|⟨c,h⟩
  ·rcases Y7.mp h with e|h
   ·cases e
    refine .inr ⟨(env.cells.lookup n).getD 0,?_⟩
    simp[Zr]
   ·exact .inl h
  ·right
   by_cases hk:(k==NameKind.free)=true
   ·rw[YA hk,Zr]
    cases x==n with
    |true=>exact⟨_,rfl⟩
    |false=>exact⟨c,h⟩
   ·rw[Yz hk];exact⟨c,h⟩
theorem bR{env:Env}(x:Str):∀(names:List (Str×NameKind)),(names.map λ(n,k)=>if (k==NameKind.free&&env.scope.kind==.function&&env.kindOf n==some .cell) then (n,NameKind.cell) else (n,k)).lookup x =
   (names.lookup x).map λk=>if (k==NameKind.free&&env.scope.kind==.function&&env.kindOf x==some .cell) then NameKind.cell else k
 |[]=>rfl
 | (n,k)::r=>by
  have ih:=bR (env:=env) x r
  show List.lookup x ((if (k==NameKind.free&&env.scope.kind==.function&&env.kindOf n==some .cell)=true then (n,NameKind.cell) else (n,k))::_)=_
  cases hx:x==n with
  |true =>
   have e:x=n:=by simpa using hx
   subst e
   by_cases hc:(k==NameKind.free&&env.scope.kind==.function&&env.kindOf x==some .cell)=true
   ·rw[YA hc];simp only[Zr,beq_self_eq_true,Zm,YA hc]
   ·rw[Yz hc];simp only[Zr,beq_self_eq_true,Zm,Yz hc]
  |false =>
   by_cases hc:(k==NameKind.free&&env.scope.kind==.function&&env.kindOf n==some .cell)=true
   ·rw[YA hc];simp only[Zr,hx];exact ih
   ·rw[Yz hc];simp only[Zr,hx];exact ih
structure bq(XN:List Str)(Ca:Scope)(N:List Str)(nv:Nat)(js:List Nat)(scope:Scope):Prop where
 kind:scope.kind=.function
 cell:∀y∈scope.names,y.2≠.cell
 loc:∀y∈scope.names,y.2=.local->scope.names.lookup y.1=some .local
 free:∀y∈scope.names,y.2=.free->(Ca.names.lookup y.1=some .cell\/Ca.names.lookup y.1=some .free)
 nd:N.Nodup
 len:N.length=nv+js.length
 pl:js.map (λj=>XN[j]?)=(N.drop nv).map some
 fr:∀x∈N.drop nv,scope.names.lookup x=some .free
abbrev gO(X:Cx)(N:List Str)(scope:Scope)(C:Addr)(s:Shared)(H:Hp)(fp:List Addr):Cx where
 prog:=X.prog
 w:=X.w
 K:=X.K
 mg:=X.mg
 base:=X.base
 A:=X.A
 N:=N
 s₀:=s
 H₀:=H
 env:=compEnvC scope (cP X.env scope.names []) C X.env
 outer:=X.stack
 stack:=X.stack
 ex:=fp
 fn:=λ_=>false
 calm:=X.calm
 pn:=[]
 xe:=λ_ _=>False
def gP(nv:Nat)(js:List Nat)(σ:St):St:=List.replicate nv none++js.map λj=>(σ[j]?).getD none
section
variable{X:Cx}{pins:List (Addr×Obj)}{σ:St}{H:Hp}{s:Shared}
theorem Al{N:List Str}{nv:Nat}{js:List Nat}{scope:Scope}{fp:List Addr}{h1:Heap}{tk:Nat}(I:Inv X pins σ H s)(S:bq X.N X.env.scope N nv js scope)(hf:∀b∈fp,jq X pins H b)(hfl:∀b∈fp,b<s.heap.objs.size)(keep:∀b o,s.heap.get? b=some o->h1.get? b=some o)(ns:h1.Ns s.heap.objs.size λ_=>none):Inv (gO X N scope s.heap.objs.size s H fp) [] (gP nv js σ) H {s with heap:=h1,toks:=tk}:=by
 have hfr:∀n,(n,NameKind.free)∈scope.names->∃c,X.env.cells.lookup n=some c:=λn hn=>I.ok.has n (S.free _ hn rfl)
 have sub:∀x c,(cP X.env scope.names []).lookup x=some c->X.env.cells.lookup x=some c:=gM scope.names [] hfr (λx c z=>by cases z)
 have Jm:∀x,scope.names.lookup x≠some .cell:=λx z=>S.cell _ (Zf z) rfl
 have Jo:∀x,(relabel scope X.env).names.lookup x=some .cell\/(relabel scope X.env).names.lookup x=some .free->scope.names.lookup x=some .free:=by
  intro x hx
  have e:=bR (env:=X.env) x scope.names
  have hx':(relabel scope X.env).names.lookup x=_:=e
  rw[hx']at hx
  cases q:scope.names.lookup x with
  |none=>rw[q]at hx;rcases hx with hx|hx<;>cases hx
  |some k =>
   rw[q,Zm]at hx
   cases k<;>first|rfl | (exact absurd q (Jm x)) | (exfalso;rcases hx with hx|hx<;>simp at hx)
 refine⟨⟨I.ok.mod,S.kind,I.ok.glob,I.ok.blt,YB _,λx y c h1 h2=>I.ok.inj x y c (sub _ _ h1) (sub _ _ h2),λx hx=>?_,λx c z=>(by cases z),I.ok.hd,I.ok.frames,.inl rfl,λb hb=>?_,λb o e=>?_,?_,λb o e hb=>?_,λb hb z=>?_,I.stack,I.wL⟩,O,I.bare,Un.kept keep,⟨_,ns,λi x v e1 e2 e3=>?_⟩,λx c e=>?_,I.hok.fresh (YB _),λx c e=>I.kr x c (sub _ _ e),λp hp=>absurd (show p∈([]:List (Addr×Obj)) from hp) (by simp),I.hok.kept keep,?_⟩
 ·exact fV _ _ _ (.inl (Zf (Jo x hx)))
 ·obtain⟨f0,f1,f2,f3,f4,f5⟩:=hf b hb
  exact⟨Za (hfl b hb),λx c e=>f4 x c (sub x c e)⟩
 ·exact I.bs b o e
 ·exact YU I.ok.Dg I.sz
 ·obtain⟨f0,f1,f2,f3,f4,f5⟩:=hf b hb
  rcases f3 with z|z
  ·exact I.ok.BX b o e z
  ·exact absurd (YZ (YQ e) (YU I.ok.Dg z)) (ZQ _)
 ·obtain⟨f0,f1,f2,f3,f4,f5⟩:=hf b hb
  rcases Y7.mp (I.pG b z) with q|q
  ·exact f1 q
  ·exact f2 q
 ·
  have hi:¬i<nv:=λhlt=>by
   unfold gP at e2
   rw[List.getElem?_append_left (by simpa using hlt),List.getElem?_replicate,YA hlt]at e2
   cases e2
  obtain⟨k,rfl⟩:∃k,i=nv+k:=⟨i-nv,by omega⟩
  unfold gP at e2
  rw[ZR (by simp),Zo,Nat.add_sub_cancel_left,Zk]at e2
  cases hj:js[k]? with
  |none=>rw[hj]at e2;cases e2
  |some j =>
   rw[hj,Zm]at e2
   have Br:(σ[j]?).getD none=some v:=Y0 e2
   have hσ:σ[j]?=some (some v):=by
    cases q:σ[j]? with
    |none=>rw[q]at Br;cases Br
    |some z=>rw[q]at Br;exact congrArg some Br
   have hd:(N.drop nv)[k]?=some x:=by rw[List.getElem?_drop];exact e1
   have hX:X.N[j]?=some x:=by
    have q:=congrArg (λl=>l[k]?) S.pl
    simp only[Zk,hj,hd,Zm]at q
    exact Y0 q
   have hfx:=S.fr x (YT hd)
   have kx:=S.free _ (Zf hfx) rfl
   obtain⟨m,_,hl⟩:=I.loc
   obtain⟨u,r,l⟩:=hl j x v hX hσ (.inr kx)
   refine⟨u,r,?_⟩
   rcases l with ⟨k1,_⟩|⟨_,c,hc,hcell⟩
   ·exfalso
    have OD:X.env.scope.names.lookup x=some .local:=k1
    rcases kx with z|z<;>(rw[OD]at z;cases z)
   ·obtain⟨c',hc'⟩:=fV (env:=X.env) scope.names [] x (.inl (Zf hfx))
    have e:=sub _ _ hc'
    rw[hc]at e;cases e
    refine .inr ⟨?_,c,hc',hcell.keeps keep⟩
    have e:=bR (env:=X.env) x scope.names
    have e':(relabel scope X.env).names.lookup x=_:=e
    rw[hfx,Zm]at e'
    show(relabel scope X.env).names.lookup x=some .cell\/(relabel scope X.env).names.lookup x=some .free
    rw[e']
    split
    ·exact .inl rfl
    ·exact .inr rfl
 ·obtain⟨v,q⟩:=I.cell x c (sub _ _ e)
  exact⟨v,q.keeps keep⟩
 ·unfold gP
  show _=N.length
  rw[YE,Zo,YC,S.len]
end
def wX(X:Cx)(ifs:List Expr)(t:TT):Prop :=
 ∀(pins:List (Addr×Obj))(s:Shared)(σ:St)(H:Hp)(Q:Bool->Hp->Prop),Inv X pins σ H s->t σ H Q->wpAny (model X.prog X.w) X.A (forIn ifs true λc r=>if r=true then do let ok ←isTrue c X.env (eval c X.env);pure (ForInStep.yield ok) else pure (ForInStep.yield r)) (TP X pins σ Q) X.xe s
def Jp:TT:=λ_ H Q=>Q true H
theorem dM{X:Cx}:wX X [] Jp:=λ_ _ _ H _ I h=>wpAny_tests_nil ⟨H,I,h⟩
theorem GJ{X:Cx}{c:Expr}{t:TT}(h:PT X c t):wX X [c] t:=λpins s σ H Q I q=>wpAny_tests_one (h pins s σ H Q I q)
def sX(J:It)(g:TG)(tt:TT)(te:TE)(Q:VK)(D:Addr)(τ:St)(H:Hp):Prop :=
 ∃W:Nat->Nat->List V->St->Hp->Prop,(∃m,W 0 m [] τ (upd H D (.lst [])))/\∀i m ys τ H,W i m ys τ H->H D=some (.lst ys)/\((J.stop i H/\Q (.ref D) H)\/(J.go i H/\∃N:List V->St->Hp->Prop,(∀zs σ' H',N zs σ' H'->∃m',m'<m/\W (i+1) m' zs σ' H')/\∀x H',J.FU i H x H'->g x τ H' λτ2 H2=>tt τ2 H2 λb H3 =>
   if b=true then te τ2 H3 λy H4=>H4 D=some (.lst ys)/\ys.length<sizeLine/\N (ys++[y]) τ2 (upd H4 D (.lst (ys++[y])))
   else N ys τ2 H3))
def DW(wi:TI)(g:TG)(tt:TT)(te:TE)(nv:Nat)(js:List Nat):TE:=λσ H Q=>wi σ H λJ H1=>∀D,H1 D=none->sX J g tt te Q D (gP nv js σ) H1
theorem sY{prog:Program}{w:World}{A:Around}{R:Result->Shared->Prop}{s:Shared}{elt target iter:Expr}{ifs:List Expr}{scope:Scope}{pos:Pos}{it acc:Value}{env:Env}(I:Nat->Shared->Prop)(turn:∀n s,I n s->wpAny (model prog w) A (pyNext it) (λr s₁=>match r with
   |none=>R (.ok .next) s₁
   |some v=>wpAny (model prog w) A (letOwnedTupleGo target it v) (λ_ s₁'=>wpAny (model prog w) A (assign target env v) (λ_ s₂ =>
     wpAny (model prog w) A (forIn ifs true λc r=>if r=true then do let ok ←isTrue c env (eval c env);pure (ForInStep.yield ok) else pure (ForInStep.yield r)) (λok s₃ =>
      if ok=true then wpAny (model prog w) A (eval elt env) (λx s₄ =>
       wpAny (model prog w) A (call (.builtin "list.append") [acc,x]) (λ_ s₅=>∃m,m<n/\I m s₅) (λ_ _=>False) s₄) (λ_ _=>False) s₃
      else ∃m,m<n/\I m s₃) (λ_ _=>False) s₂) (λ_ _=>False) s₁') (λ_ _=>False) s₁) (λ_ _=>False) s)(n:Nat)(h:I n s):codeAny (model prog w) A (.compLoop (.ListComp elt [⟨target,iter,ifs,0⟩] scope pos) 0 it acc env) R s:=by
 refine codeAny_loop rfl I (λn s hI=>?_) n h
 show wpAny _ A ((compTurn (.ListComp elt [⟨target,iter,ifs,0⟩] scope pos) 0 it acc env).onRaise (λx=>do noteFrame x env;theTreesLotGoes x)) _ _ s
 refine wpAny_noted (Zq (E:=λ_ _=>False) ?_ (λ_ _ q=>q) λ_ _ q=>q.elim)
 rw[compTurn_list]
 refine YD (wpAny_standAt (YD (Zq (turn n s hI) (λr s₁ h₁=>?_) λ_ _ h'=>h')))
 cases r with
 |none=>exact Y5 h₁
 |some v =>
  refine YD (Zq h₁ (λ_ s₁' h₁'=>?_) λ_ _ h'=>h')
  refine YD (Zq h₁' (λ_ s₂ h₂=>YD (Zq h₂ (λok s₃ h₃=>?_) λ_ _ h'=>h')) λ_ _ h'=>h')
  cases ok with
  |false=>exact Y5 ⟨rfl,h₃⟩
  |true =>
   exact YD (YD (Zq h₃ (λx s₄ h₄=>YD (Zq h₄ (λ_ s₅ h₅=>Y5 (Y5 ⟨rfl,h₅⟩)) λ_ _ h'=>h')) λ_ _ h'=>h'))
section
variable{X:Cx}{elt tg iter:Expr}{ifs:List Expr}{scope:Scope}{pos:Pos}{N:List Str}{nv:Nat}{js:List Nat}{wi:TI}{g:TG}{tt:TT}{te:TE}
theorem sZ{pins:List (Addr×Obj)}{σ:St}{H:Hp}{s:Shared}{Q:VK}{it:Addr}{fp:List Addr}{tn:Nat->Heap->Prop}{J:It}{E:Value->Shared->Prop}{RR:Value->Addr->Result->Shared->Prop}(hc:X.calm=true)(S:bq X.N X.env.scope N nv js scope)(hg:∀C s H fp,PG (gO X N scope C s H fp) tg g)(ht:∀C s H fp,wX (gO X N scope C s H fp) ifs tt)(he:∀C s H fp,PE (gO X N scope C s H fp) elt te)(I:Inv X pins σ H s)(T:Turn X.prog X.w X.K tg J fp it tn)(st:tn 0 s.heap)(hf:∀b∈fp,jq X pins H b)(hR:∀D,H D=none->sX J g tt te Q D (gP nv js σ) H)(hRR:∀D C H' s' m,Inv X pins σ H' s'->jq X pins H' C->s'.heap.Ns C m->Q (.ref D) H'->RR (.ref D) C (.ok .next) s'):wpAny (model X.prog X.w) X.A (newList []) (λacc s₃=>wpAny (model X.prog X.w) X.A (newFunctionEnv scope X.env.globals (cP X.env scope.names []) [] X.env.qual none .none (some X.env)) (λcenv s₄ =>
   codeAny (model X.prog X.w) X.A (.compStart (.ListComp elt [⟨tg,iter,ifs,0⟩] scope pos) 0 (.ref it) acc {cenv with scope:=relabel scope X.env}) (RR acc cenv.locals) s₄) E s₃) E s:=by
 refine wpAny_newObj_type (wpAny_newFunctionEnv S.cell (by intro y hy;simp at hy) (λh₁ tu DX=>?_) S.kind)
 have I3:Inv X pins σ (upd H s.heap.objs.size (.lst [])) {s with heap:=s.heap.push {cls:=.type "list",data:=.seq ([]:List Value).toArray}}:=I.Jj (t':=s.toks) (its:=[]) .nil (Zd _)
 have hD:=I.fresh
 obtain⟨W,⟨m0,w0⟩,turn⟩:=hR s.heap.objs.size hD
 have ho:=T.obj 0 s.heap st
 have DY:∀b∈fp,b<s.heap.objs.size:=λb hb=>let ⟨o,e,_⟩:=ho b hb;YQ e
 have Am:∀b∈fp,jq X pins (upd H s.heap.objs.size (.lst [])) b:=λb hb=>⟨by rw[az (Za (DY b hb))];exact(hf b hb).1,(hf b hb).2⟩
 generalize L6:({s with heap:=s.heap.push {cls:=.type "list",data:=.seq ([]:List Value).toArray}}:Shared)=s3 at I3 tu DX
 have e3:s3.heap=s.heap.push {cls:=.type "list",data:=.seq ([]:List Value).toArray}:=by rw[←L6]
 have hfl:∀b∈fp,b<s3.heap.objs.size:=λb hb=>by rw[e3,ZF];exact Nat.lt_succ_of_lt (DY b hb)
 have keep:∀b o,s3.heap.get? b=some o->h₁.get? b=some o:=λb o e=>DX.extBut b o (Za (YQ e)) (YI _ e)
 have J0:=Al (tk:=s3.toks+([]:List (Str×Value)).length) I3 S Am hfl keep tu
 have st1:tn 0 h₁:=T.keep 0 s.heap h₁ st λb hb o e=>keep b o (by rw[e3];exact YI _ e)
 generalize TY:upd H s.heap.objs.size (.lst [])=H3 at *
 generalize hY:gO X N scope s3.heap.objs.size s3 H3 fp=Y at *
 have sub:∀x c,(cP X.env scope.names []).lookup x=some c->X.env.cells.lookup x=some c :=
  gM scope.names [] (λn hn=>I.ok.has n (S.free _ hn rfl)) (λx c z=>by cases z)
 have sP:∀{H':Hp},(∀b∈fp,H' b=none)->∀b∈fp,jq Y [] H' b:=λ{H'} hn b hb=>by
  subst hY
  obtain⟨f0,f1,f2,f3,f4,f5⟩:=Am b hb
  refine⟨hn b hb,Za (hfl b hb),λz=>?_,.inl hb,λx c e=>f4 x c (sub x c e),λp hp=>absurd (show p∈([]:List (Addr×Obj)) from hp) (by simp)⟩
  rcases Y7.mp (I3.pG b z) with q|q
  ·exact f1 q
  ·exact f2 q
 have eA:Y.A=X.A:=by subst hY;rfl
 have eP:Y.prog=X.prog:=by subst hY;rfl
 have eW:Y.w=X.w:=by subst hY;rfl
 have eK:Y.K=X.K:=by subst hY;rfl
 have eC:Y.calm=true:=by subst hY;exact hc
 have eE:Y.env=compEnvC scope (cP X.env scope.names []) s3.heap.objs.size X.env:=by subst hY;rfl
 have GK:Y.xe=λ_ _=>False:=by subst hY;rfl
 have OE:PG Y tg g:=by subst hY;exact hg _ _ _ _
 have OG:wX Y ifs tt:=by subst hY;exact ht _ _ _ _
 have OH:PE Y elt te:=by subst hY;exact he _ _ _ _
 have loop:codeAny (model X.prog X.w) X.A (.compLoop (.ListComp elt [⟨tg,iter,ifs,0⟩] scope pos) 0 (.ref it) (.ref s.heap.objs.size) (compEnvC scope (cP X.env scope.names []) s3.heap.objs.size X.env))
   (RR (.ref s.heap.objs.size) s3.heap.objs.size) {s3 with heap:=h₁,toks:=s3.toks+([]:List (Str×Value)).length}:=by
  refine sY (λn s'=>∃i ys τ H',Inv Y [] τ H' s'/\tn i s'.heap/\(∀b∈fp,H' b=none)/\W i n ys τ H') ?_ m0 ⟨0,[],_,H3,J0,st1,λb hb=>(Am b hb).1,w0⟩
  rintro n s4 ⟨i,ys,τ,H4,I4,L7,L8,w4⟩
  obtain⟨TZ,tr⟩:=turn i n ys τ H4 w4
  rcases tr with ⟨stop,qn⟩|⟨go,Nn,Ma,step⟩
  ·have d:=T.done Y eP eW eK eC i [] s4 τ H4 (λ_ _=>False) I4 (sP L8) L7 stop
   rw[eA]at d
   refine bV d λr s5 ⟨hr,I5⟩=>?_
   subst hr
   have u:Inv X pins σ H4 s5:=by
    subst hY
    exact I3.Ic (ch:=fp) I5.os I5.base I5.hok I5.bare λb hb=>⟨(Am b hb).2.2.2.1,(Am b hb).2.1,(Am b hb).2.2.2.2.1,(Am b hb).2.2.2.2.2⟩
   have hC:H4 s3.heap.objs.size=none:=by have z:=I5.free;rw[eE]at z;exact z
   obtain⟨m,hn,_⟩:=I5.loc
   rw[eE]at hn
   exact hRR _ _ H4 s5 m u (I3.uT (YB _) hC) hn qn
  ·have d:=T.item Y eP eW eK eC i [] s4 τ H4 (λ_ _=>False) I4 (sP L8) L7 go
   rw[eA]at d
   refine bV d λr s5 ⟨u,hr,h5⟩=>?_
   subst hr
   refine bV h5 λ_ s6 ⟨x,H6,I6,r6,y6,Jr,OI⟩=>?_
   have OJ:=I6.pinned (sP OI) (T.obj _ _ Jr)
   have q6:=OE _ s6 τ H6 x u _ OJ r6 (step x H6 y6)
   rw[eP,eW,eA,eE,GK]at q6
   refine bV q6 λ_ s7 ⟨σ7,H7,I7,q7⟩=>?_
   have q8:=OG _ s7 σ7 H7 _ I7 q7
   rw[eP,eW,eA,eE,GK]at q8
   refine bV q8 λok s8 ⟨H8,I8,q8⟩=>?_
   have again:∀{σ9:St}{H9:Hp}{s9:Shared}{zs:List V},Inv Y ([]++pJ fp s6.heap) σ9 H9 s9->(∃m',m'<n/\W (i+1) m' zs σ9 H9)->∃m,m<n/\∃i ys τ H',Inv Y [] τ H' s9/\tn i s9.heap/\(∀b∈fp,H' b=none)/\W i m ys τ H':=λ{σ9 H9 s9 zs} I9 n9=>by
    obtain⟨m',hm,w9⟩:=n9
    refine⟨m',hm,i+1,zs,σ9,H9,I9.kB,T.keep _ _ _ Jr λb hb o e=>(I9.pin (b,o) (Y4 _ (Y4 _ (fE hb e)))).1,λb hb=>?_,w9⟩
    obtain⟨o,e,d⟩:=T.obj _ _ Jr b hb
    exact(I9.pin (b,o) (Y4 _ (Y4 _ (fE hb e)))).2.1
   cases ok with
   |false =>
    rw[Yz YN]
    rw[Yz YN]at q8
    exact again I8 (Ma _ _ _ q8)
   |true =>
    rw[YA rfl]
    rw[YA rfl]at q8
    have q9:=OH _ s8 σ7 H8 _ I8 q8
    rw[eP,eW,eA,eE,GK]at q9
    refine bV q9 λy s9 ⟨yv,H9,I9,r9,K5,OL,q9⟩=>?_
    have ap:=bL (X:=Y) _ s9 σ7 H9 (.ref s.heap.objs.size) [yv] (.ref s.heap.objs.size) [y] (λ_ Js=>Nn (ys++[yv]) σ7 Js) I9 rfl (.cons r9 .nil) ⟨_,ys,yv,rfl,rfl,K5,OL,q9⟩
    rw[eP,eW,eA,GK]at ap
    exact bV ap λ_ Io ⟨_,Js,OM,_,ON⟩=>again OM (Ma _ _ _ ON)
 subst L6
 exact codeAny_compStart_list loop (T.self _ 0 _ _ _ st1 loop)
theorem eZ(hc:X.calm=true)(S:bq X.N X.env.scope N nv js scope)(hi:PI X tg iter wi)(hg:∀C s H fp,PG (gO X N scope C s H fp) tg g)(ht:∀C s H fp,wX (gO X N scope C s H fp) ifs tt)(he:∀C s H fp,PE (gO X N scope C s H fp) elt te)(hs:∀x,foldedSetIterable iter X.env x=pure x:=by intro _;rfl):PE X (.ListComp elt [⟨tg,iter,ifs,0⟩] scope pos) (DW wi g tt te nv js):=by
 intro pins s σ H Q I h
 rw[eval_ListComp]
 refine wpAny_comprehension_free (use:=none) rfl hs (iU λn hn=>I.ok.has n (S.free _ hn rfl)) S.kind S.loc (bV (hi pins s σ H _ I h) λv s1 h1=>bV h1 λitv s2 h2=>?_)
 obtain⟨it,fp,tn,J,H2,e,I2,T,st2,f2,hR⟩:=h2
 subst e
 refine sZ (RR:=λacc C=>compPost (model X.prog X.w) X.A X.xe none (EP X pins σ Q) acc C) hc S hg ht he I2 T st2 f2 hR ?_
 intro D C H' s' m I' fC hn q
 refine⟨m,hn,λh' sb=>⟨.ref D,H',?_,O,q⟩⟩
 exact I'.turned (t':=s'.toks) (λb o hb e=>(sb.2 b hb).trans e) fC.1 fC.2.1 fC.2.2.2.1 fC.2.2.2.2.1 fC.2.2.2.2.2
theorem Bs{i:Nat}{x:Str}{pos' spos:Pos}(hc:X.calm=true)(hN:X.N.Nodup)(hi':X.N[i]?=some x)(hx:X.env.scope.names.lookup x=some .local)(S:bq X.N X.env.scope N nv js scope)(hi:PI X tg iter wi)(hg:∀C s H fp,PG (gO X N scope C s H fp) tg g)(ht:∀C s H fp,wX (gO X N scope C s H fp) ifs tt)(he:∀C s H fp,PE (gO X N scope C s H fp) elt te)(hsw:swapsWith (.ListComp elt [⟨tg,iter,ifs,0⟩] scope pos) (some (.Name x pos')) spos.line X.env=pure true:=by rfl)(hs:∀x,foldedSetIterable iter X.env x=pure x:=by intro _;rfl):PS X (.Assign [.Name x pos'] (.ListComp elt [⟨tg,iter,ifs,0⟩] scope pos) spos) (Dz (DW wi g tt te nv js) (bA i)):=by
 intro pins s σ H D I h
 rw[exec_Assign_Name_used _ _ _ _ hsw]
 refine YD (wpAny_standAt (YD ?_))
 show wpAny _ X.A (do let _ ←comprehension (.ListComp elt [⟨tg,iter,ifs,0⟩] scope pos) scope X.env _ (newList []) false (eval iter X.env) (some (assign (.Name x pos') X.env))) _ _ s
 refine YD (Zq (wpAny_comprehension_free (use:=some (assign (.Name x pos') X.env)) (Q:=λ_ s'=>SP X pins D .next s') rfl hs (iU λn hn=>I.ok.has n (S.free _ hn rfl)) S.kind S.loc
  (bV (hi pins s σ H _ I h) λv s1 h1=>bV h1 λitv s2 h2=>?_)) (λ_ s' hq=>Y5 (Y5 hq)) λ_ _ e=>e)
 obtain⟨it,fp,tn,J,H2,e,I2,T,st2,f2,hR⟩:=h2
 subst e
 refine sZ (RR:=λacc C=>compPost (model X.prog X.w) X.A X.xe (some (assign (.Name x pos') X.env)) (λ_ s'=>SP X pins D .next s') acc C) hc S hg ht he I2 T st2 f2 hR ?_
 intro Dl C H' s' m I' fC hn q
 show wpAny _ X.A (assign (.Name x pos') X.env (.ref Dl)) _ _ _
 refine wpAny_assign_Name (pH I' hN hi' (.inl hx) (v:=.ref Dl) rfl (λs2 I3 ch=>?_) (.inr hx))
 obtain⟨a,sb,ha⟩:=ch
 have OO:C≠a:=by
  rcases ha with rfl|ha
  ·exact fC.2.1
  ·exact(fC.2.2.2.2.1 x a ha).symm
 refine⟨m,hn.sameBut sb OO,λh' sb'=>⟨_,H',?_,q⟩⟩
 exact I3.turned (t':=s2.toks) (λb o hb e=>(sb'.2 b hb).trans e) fC.1 fC.2.1 fC.2.2.2.1 fC.2.2.2.2.1 fC.2.2.2.2.2
end
theorem Ao:typeLookup (.type "list_reverseiterator") "__len__"=pure none:=by rw[typeLookup_type,builtinLookup_eq_fast];kernel_rfl
theorem DZ:typeLookup (.type "list_reverseiterator") "__length_hint__"=pure (some (.builtin "list_reverseiterator.__length_hint__")):=by rw[typeLookup_type,builtinLookup_eq_fast];kernel_rfl
section
variable{prog:Program}{w:World}{A:Around}{E:Value->Shared->Prop}{s:Shared}
theorem D0{I l:Addr}{i:Int}{Q:Bool->Shared->Prop}(hit:s.heap.IsRevIter I l i)(h:Q false s):wpAny (model prog w) A (Builtin.List.listLengthHint (.ref I)) Q E s:=by
 unfold Builtin.List.listLengthHint
 refine YD (ZC hit.typeIs Ao ?_)
 show wpAny _ _ (specialOf (Value.ref I) ("__length_hint__":Str) >>= _) _ _ _
 refine YD (ZC hit.typeIs DZ ?_)
 generalize hid:("list_reverseiterator.__length_hint__":String)=T3
 wp_delta
 rw[show splitId T3=some ("list_reverseiterator","__length_hint__") from by subst hid;decide +kernel]
 subst hid
 refine YD (wpAny_isInstance (T:="list_reverseiterator") (b:=true) hit.typeIs (by rw[isSubtype_type];kernel_rfl) ?_)
 refine wpAny_ite_split (λhab=>absurd hab (by decide)) (λ_=>?_)
 refine wpAny_ite_split (λ_=>?_) (λhab=>absurd (by decide +kernel) hab)
 refine wpAny_ite_split (λhab=>absurd hab (by decide +kernel)) (λ_=>?_)
 exact Y5 h
theorem Aq{R:Result->Shared->Prop}(hh:A.handled=none){I l:Addr}{items:Array Value}(hne:l≠I)(hit:s.heap.IsRevIter I l ((items.size:Int)-1))(hl:s.heap.IsList l items)(S:Addr)(T4:S≠l)(res:Value)(c₀:Nat)(hS:s.heap.get? S=some {cls:=.type "list",data:=.seq #[] c₀})(hn:items.size<=sizeLine)(hR:∀h' tk acc' c',(∀b o,b≠S->b≠I->s.heap.get? b=some o->h'.get? b=some o)->h'.get? S=some {cls:=.type "list",dict:=none,data:=.seq acc' c',slots:=#[]}->ItemsOf (λi v=>items[items.size-1-i]?=some v) acc' items.size->R (.ok (.ret res)) {s with heap:=h',toks:=tk}):wpAny (model prog w) A.in1 (Builtin.List.listExtendWith (.ref S) (.ref I) res)
   (λfin s'=>match fin with | .done f=>R (.ok f) s' | .again c'=>c'.quiet=true/\codeAny (model prog w) A c' R s') (λe s'=>R (.error e) s') s:=by
 have hSI:S≠I:=λe=>by
  subst e
  obtain⟨o,ho,hc,_⟩:=hit
  rw[hS]at ho;cases ho
  exact absurd (show Value.type "list"=Value.type "list_reverseiterator" from hc) (by decide)
 have hSf:S∉[I,l]:=λhm=>by
  rcases Y7.mp hm with e|hm
  ·exact hSI e
  ·exact T4 (YF.mp hm)
 unfold Builtin.List.listExtendWith
 refine YD (wpAny_typeOf hit.typeIs ?_)
 have h1:Builtin.List.listSameRef (.ref S) (.ref I)=false:=by simp[Builtin.List.listSameRef,hSI]
 have h2:(Value.type "list_reverseiterator"==Value.type "list")=false:=by decide
 have h3:(Value.type "list_reverseiterator"==Value.type "tuple")=false:=by decide
 simp only[h1,h2,h3,Bool.or_false,Zj,ZS]
 refine YD (wpAny_pyIter_revIter hit ?_)
 refine YD (wpAny_holding (D0 hit ?_))
 rw[Yz (by decide)]
 refine Y5 ⟨plainId_quiet F.plain_extend_loop _,codeAny_extend_loopS (Walks.listRev (prog:=prog) (w:=w) (A:=A.in1) hh I l hne items).toS hn _ hSf _ items.size 0 _ _ _ rfl (Zd _) ⟨Zd _,by simpa using hit,hl⟩ hS (ItemsOf.nil _) λs' acc' c' hm hS' hacc=>?_⟩
 rw[Moved.eq_with hm]
 refine hR s'.heap s'.toks acc' c' (λb ob hb hb2 e=>hm.heap b ob (λhmem=>?_) e) hS' hacc
 rcases Y7.mp hmem with e'|hmem
 ·exact hb e'
 ·exact hb2 (YF.mp hmem)
end
theorem Cb{items:List Value}{acc:Array Value}(h:ItemsOf (λi v=>items.toArray[items.toArray.size-1-i]?=some v) acc items.toArray.size):acc.toList=items.reverse:=by
 have hz:=h.1
 refine List.ext_getElem? λi=>?_
 by_cases hi:i<items.length
 ·have hi':i<acc.size:=by rw[hz];simpa using hi
  have q:=h.2 i acc[i] (by simp[hi'])
  rw[List.getElem?_reverse hi]
  simp only[YH,List.getElem?_toArray]at q
  rw[q]
  simp[hi']
 ·rw[Zz (by rw[YX,hz];simpa using hi),Zz (by simpa using hi)]
section
variable{X:Cx}{e:Expr}{te:TE}
end
def sg(c:Nat):Str:=⟨#[c]⟩
def K6(z:Str):It:=⟨λi _=>i<z.cps.size,λi H x H'=>H'=H/\∃c,z.cps[i]?=some c/\x=.str (sg c),λi _=>z.cps.size<=i⟩
theorem D3{P:Program}{w:World}{K:W.Frag}{tg:Expr}(it:Addr)(z:Str)(t:Tok):Turn P w K tg (K6 z) [it] it (λi h=>h.IsStrIter it (strIterType z) z t i) where
 mem:=by simp
 obj:=λi h st b hb=>by
  have e:b=it:=by simpa using hb
  subst e
  obtain⟨o,e,c,d⟩:=st
  exact⟨o,e,λv z=>by rw[d]at z;cases z⟩
 keep:=λi h h' st k=>by
  obtain⟨o,e,r⟩:=st
  exact⟨o,k it (by simp) o e,r⟩
 item:=by
  intro X hP hw hK hc i pins s σ H E I hf st hg
  subst hP hw hK
  obtain⟨f0,f1,f2,f3,f4,f5⟩:=hf it (by simp)
  have hi:i<z.cps.size:=hg
  have hx:z.cps[i]?=some z.cps[i]:=by simp[hi]
  cases ha:z.cps.all (· < 128) with
  |true =>
   have et:strIterType z="str_ascii_iterator":=by simp only[strIterType,ha,if_true]
   rw[et]at st⊢
   refine wpAny_pyNext_ascii_item st hx λh' st' sb=>?_
   have I1:Inv X pins σ H {s with heap:=h',toks:=s.toks+1}:=I.turned (λb o hb e=>(sb.2 b hb).trans e) f0 f1 f3 f4 f5
   obtain⟨o,e,c,d⟩:=id st'
   exact⟨_,rfl,yG (s:={s with heap:=h',toks:=s.toks+1}) e c d (by decide) ⟨.str (sg z.cps[i]),H,I1,⟨_,rfl⟩,⟨rfl,_,hx,rfl⟩,st',λb hb=>(hf b hb).1⟩⟩
  |false =>
   have et:strIterType z="str_iterator":=by simp only[strIterType,ha,Zj,ZS]
   rw[et]at st⊢
   refine wpAny_pyNext_wide_item st hx λh' st' sb=>?_
   have I1:Inv X pins σ H {s with heap:=h',toks:=s.toks+1}:=I.turned (λb o hb e=>(sb.2 b hb).trans e) f0 f1 f3 f4 f5
   obtain⟨o,e,c,d⟩:=id st'
   exact⟨_,rfl,yG (s:={s with heap:=h',toks:=s.toks+1}) e c d (by decide) ⟨.str (sg z.cps[i]),H,I1,⟨_,rfl⟩,⟨rfl,_,hx,rfl⟩,st',λb hb=>(hf b hb).1⟩⟩
 done:=by
  intro X hP hw hK hc i pins s σ H E I hf st hg
  subst hP hw hK
  obtain⟨f0,f1,f2,f3,f4,f5⟩:=hf it (by simp)
  have hi:z.cps.size<=i:=hg
  have hx:z.cps[i]?=none:=by simp[hi]
  cases ha:z.cps.all (· < 128) with
  |true =>
   have et:strIterType z="str_ascii_iterator":=by simp only[strIterType,ha,if_true]
   rw[et]at st
   exact wpAny_pyNext_ascii_end (I.ok.hd hc) st hx λh' eb=>⟨rfl,I.turned (t':=s.toks) (λb o hb e=>eb b o hb e) f0 f1 f3 f4 f5⟩
  |false =>
   have et:strIterType z="str_iterator":=by simp only[strIterType,ha,Zj,ZS]
   rw[et]at st
   exact wpAny_pyNext_wide_end (I.ok.hd hc) st hx λh' eb=>⟨rfl,I.turned (t':=s.toks) (λb o hb e=>eb b o hb e) f0 f1 f3 f4 f5⟩
 self:=by
  intro A i s Q E st h
  cases ha:z.cps.all (· < 128) with
  |true =>
   have et:strIterType z="str_ascii_iterator":=by simp only[strIterType,ha,if_true]
   rw[et]at st
   exact wpAny_pyIter_striter_ascii st h
  |false =>
   have et:strIterType z="str_iterator":=by simp only[strIterType,ha,Zj,ZS]
   rw[et]at st
   exact wpAny_pyIter_striter_wide st h
section
variable{X:Cx}{tg:Expr}
def OP(tl:TE):TI:=λσ H R=>tl σ H λx H1=>∃z,x=.str z/\R (K6 z) H1
theorem mZ{l:Expr}{tl:TE}(hl:PE X l tl):PI X tg l (OP tl):=by
 intro pins s σ H R I h
 refine bV (hl pins s σ H _ I h) λv s1 ⟨x,H1,I1,r1,q1⟩=>?_
 obtain⟨z,e,q⟩:=q1
 subst e
 obtain⟨t,rfl⟩:=r1
 refine wpAny_pyIter_strU ?_
 refine⟨s1.heap.objs.size,[s1.heap.objs.size],_,_,H1,rfl,I1.kept (t':=s1.toks) λb o e=>YI _ e,D3 _ z t,⟨_,Zi _ rfl,rfl,rfl⟩,λb hb=>?_,q⟩
 have e:b=s1.heap.objs.size:=by simpa using hb
 subst e
 exact I1.uT (YB _) (I1.hok.fresh (YB _))
end
theorem wY{z:Str}{g:TG}{tb:TS}{D:Ends}{σ:St}{H:Hp}(Pv:Nat->St->Hp->Prop)(h0:Pv 0 σ H)(hs:∀i c σ H,z.cps.toList[i]?=some c->Pv i σ H->g (.str (sg c)) σ H λσ2 H2=>tb {D with nx:=Pv (i+1),ct:=Pv (i+1),bk:=D.nx} σ2 H2)(hd:∀σ H,Pv z.cps.toList.length σ H->D.nx σ H):∃W:Nat->Nat->St->Hp->Prop,(∃m,W 0 m σ H)/\∀i m σ H,W i m σ H->((K6 z).stop i H/\D.nx σ H)\/((K6 z).go i H/\∃N:St->Hp->Prop,(∀σ' H',N σ' H'->∃m',m'<m/\W (i+1) m' σ' H')/\∀x H',(K6 z).FU i H x H'->g x σ H' λσ2 H2=>tb {D with nx:=N,ct:=N,bk:=D.nx} σ2 H2):=by
 refine⟨λi m σ H=>m=z.cps.size-i/\i<=z.cps.size/\Pv i σ H,⟨z.cps.size,by simp,Zd _,h0⟩,?_⟩
 rintro i m σ H ⟨rfl,hi,p⟩
 by_cases hlt:i<z.cps.size
 ·refine .inr ⟨hlt,Pv (i+1),λσ' H' p'=>⟨z.cps.size-(i+1),by omega,rfl,hlt,p'⟩,λx H' y=>?_⟩
  obtain⟨e,c,hc,ex⟩:=y
  subst e ex
  exact hs i c σ _ (by simpa using hc) p
 ·have e:i=z.cps.size:=by omega
  subst e
  exact .inl ⟨YB _,hd σ H (by simpa using p)⟩
theorem fG{K:W.Frag}{a:Addr}{xs:List V}{g:TG}{tt:TT}{te:TE}{Q:VK}{D:Addr}{τ:St}{H:Hp}(Pv:Nat->List V->St->Hp->Prop)(h0:Pv 0 [] τ (upd H D (.lst [])))(hl:∀i ys τ H,i<=xs.length->Pv i ys τ H->aX K H a xs/\H D=some (.lst ys))(hs:∀i x ys τ H,xs[i]?=some x->Pv i ys τ H->g x τ H λτ2 H2=>tt τ2 H2 λb H3=>if b=true then te τ2 H3 λy H4=>H4 D=some (.lst ys)/\ys.length<sizeLine/\Pv (i+1) (ys++[y]) τ2 (upd H4 D (.lst (ys++[y]))) else Pv (i+1) ys τ2 H3)(hd:∀ys τ H,Pv xs.length ys τ H->Q (.ref D) H):sX (K3 K a) g tt te Q D τ H:=by
 refine⟨λi m ys τ H=>m=xs.length-i/\i<=xs.length/\Pv i ys τ H,⟨xs.length,by simp,Zd _,h0⟩,?_⟩
 rintro i m ys τ H ⟨rfl,hi,p⟩
 obtain⟨q,hD⟩:=hl i ys τ H hi p
 refine⟨hD,?_⟩
 by_cases hlt:i<xs.length
 ·refine .inr ⟨⟨xs,xs[i],q,by simp[hlt]⟩,Pv (i+1),λzs σ' H' p'=>⟨xs.length-(i+1),by omega,rfl,hlt,p'⟩,λx H' y=>?_⟩
  obtain⟨e,y⟩:=y
  subst e
  exact hs i x ys τ _ (y xs q) p
 ·have e:i=xs.length:=by omega
  subst e
  exact .inl ⟨⟨xs,q,YB _⟩,hd ys τ H p⟩
theorem nO{z:Str}{g:TG}{tt:TT}{te:TE}{Q:VK}{D:Addr}{τ:St}{H:Hp}(Pv:Nat->List V->St->Hp->Prop)(h0:Pv 0 [] τ (upd H D (.lst [])))(hl:∀i ys τ H,i<=z.cps.toList.length->Pv i ys τ H->H D=some (.lst ys))(hs:∀i c ys τ H,z.cps.toList[i]?=some c->Pv i ys τ H->g (.str (sg c)) τ H λτ2 H2=>tt τ2 H2 λb H3=>if b=true then te τ2 H3 λy H4=>H4 D=some (.lst ys)/\ys.length<sizeLine/\Pv (i+1) (ys++[y]) τ2 (upd H4 D (.lst (ys++[y]))) else Pv (i+1) ys τ2 H3)(hd:∀ys τ H,Pv z.cps.toList.length ys τ H->Q (.ref D) H):sX (K6 z) g tt te Q D τ H:=by
 have hz:z.cps.toList.length=z.cps.size:=by simp
 refine⟨λi m ys τ H=>m=z.cps.size-i/\i<=z.cps.size/\Pv i ys τ H,⟨z.cps.size,by simp,Zd _,h0⟩,?_⟩
 rintro i m ys τ H ⟨rfl,hi,p⟩
 refine⟨hl i ys τ H (by omega) p,?_⟩
 by_cases hlt:i<z.cps.size
 ·refine .inr ⟨hlt,Pv (i+1),λzs σ' H' p'=>⟨z.cps.size-(i+1),by omega,rfl,hlt,p'⟩,λx H' y=>?_⟩
  obtain⟨e,c,hc,ex⟩:=y
  subst e ex
  exact hs i c ys τ _ (by simpa using hc) p
 ·have e:i=z.cps.size:=by omega
  subst e
  exact .inl ⟨YB _,hd ys τ H (by rw[hz];exact p)⟩
theorem m5{lo:Int}{n:Nat}{g:TG}{tt:TT}{te:TE}{Q:VK}{D:Addr}{τ:St}{H:Hp}(Pv:Nat->List V->St->Hp->Prop)(h0:Pv 0 [] τ (upd H D (.lst [])))(hl:∀i ys τ H,i<=n->Pv i ys τ H->H D=some (.lst ys))(hs:∀i ys τ H,i<n->Pv i ys τ H->g (.int (lo+i)) τ H λτ2 H2=>tt τ2 H2 λb H3=>if b=true then te τ2 H3 λy H4=>H4 D=some (.lst ys)/\ys.length<sizeLine/\Pv (i+1) (ys++[y]) τ2 (upd H4 D (.lst (ys++[y]))) else Pv (i+1) ys τ2 H3)(hd:∀ys τ H,Pv n ys τ H->Q (.ref D) H):sX (Ih lo n) g tt te Q D τ H:=by
 refine⟨λi m ys τ H=>m=n-i/\i<=n/\Pv i ys τ H,⟨n,by simp,Zd _,h0⟩,?_⟩
 rintro i m ys τ H ⟨rfl,hi,p⟩
 refine⟨hl i ys τ H hi p,?_⟩
 by_cases hlt:i<n
 ·refine .inr ⟨hlt,Pv (i+1),λzs σ' H' p'=>⟨n-(i+1),by omega,rfl,hlt,p'⟩,λx H' y=>?_⟩
  obtain⟨e,y⟩:=y
  subst e y
  exact hs i ys τ _ hlt p
 ·have e:i=n:=by omega
  subst e
  exact .inl ⟨YB _,hd ys τ H p⟩
theorem Bt:∀{zs:List Str}{us:List Value},Vals (zs.map V.str) us->StrsAre us zs
 |[],_,r=>by cases r;exact .nil
 |z::zs,_,r=>by
  cases r with
  |cons r1 r2 =>
   obtain⟨t,e⟩:=r1
   subst e
   exact .cons z t (Bt r2)
section
variable{X:Cx}
def rJoin(K:W.Frag):V->List V->Hp->VK->Prop:=λx vs H Q=>∃z p zs,x=.str z/\vs=[.ref p]/\aX K H p (zs.map V.str)/\(zs.map (·.length)).sum+zs.length*z.length<=16777216/\Q (.str (Txt.join z zs)) H
theorem GL:LZ X "str.join" (rJoin X.K):=by
 intro pins s σ H x vs v us Q I rx rv h
 obtain⟨z,p,zs,rfl,rfl,hq,hz,q⟩:=h
 obtain⟨t,rfl⟩:=rx
 obtain⟨u,rfl,ru⟩:=rv.one
 cases ru
 obtain⟨its,r,pl,_⟩:=I.list hq
 exact join_list pl.isList (by simpa using Bt r) hz λt' k=>⟨.str _,H,I.tok k,⟨t',rfl⟩,q⟩
theorem yL:fz X (.builtin "isinstance") (λxs H Q=>∃x c t b,xs=[x,c]/\nK X.K H x t/\((∃n,c=.ty n/\W.kitOne X.K t (.type n)=some b)\/(∃a,c=.ref a/\W.kitOne X.K t (.ref a)=some b))/\Q (.bl b) H):=by
 intro pins s σ H xs us Q I r h
 obtain⟨x,c,t,b,rfl,ty,hc,q⟩:=h
 obtain⟨u,w',rfl,ru,rw'⟩:=vals2 r
 rcases hc with ⟨n,rfl,e⟩|⟨a,rfl,e⟩
 ·cases rw'
  exact vI I ru ty e λtk=>⟨.bl b,H,I.tok tk,rfl,q⟩
 ·cases rw'
  exact vI I ru ty e λtk=>⟨.bl b,H,I.tok tk,rfl,q⟩
end
theorem fH(c:Nat):(sg c).length=1:=rfl
theorem GN(a b:List Nat):(⟨a.toArray⟩:Str)++(⟨b.toArray⟩:Str)=⟨(a++b).toArray⟩:=by
 show Str.mk (a.toArray++b.toArray)=_
 simp
section
variable{X:Cx}
def Mb(K:W.Frag):R2:=λx y H Q=>∃a b xs,x=.ref a/\y=.ref b/\aX K H a xs/\aX K H b []/\Q (.bl (!xs.isEmpty)) H
theorem Jt(hu:X.A.units<cLine):lT X (compareOp .NotEq) (Mb X.K):=by
 intro pins s σ H x y v u Q I rx ry h
 obtain⟨a,b,xs,rfl,rfl,ha,hb,q⟩:=h
 cases rx
 cases ry
 obtain⟨its,r1,p1,_⟩:=I.list ha
 obtain⟨its2,r2,p2,_⟩:=I.list hb
 cases r2
 show wpAny _ _ (richCompare .NotEq (.ref a) (.ref b)) _ _ _
 cases xs with
 |nil =>
  cases r1
  refine SeqAt.RcNeAt.lists (e:=λ_=>true) p1.isList p2.isList rfl hu (λj h1 _=>absurd h1 (by simp)) _ _ _ _ ⟨.bl false,H,I,?_,q⟩
  simp[RelV]
 |cons x xs =>
  cases r1 with
  |cons r rr =>
   exact SeqAt.RcNeAt.lists_lengths p1.isList p2.isList (by simp) hu _ _ _ _ ⟨.bl true,H,I,rfl,q⟩
end
section
variable{X:Cx}(K:W.Frag)(h:X.K=K)
include h
theorem D4:K4 X (Jf K):=by subst h;exact GD
theorem GO:K4 X (Jg K):=by subst h;exact Jh
theorem D5:LZ X "str.join" (rJoin K):=by subst h;exact GL
theorem bu:fz X (.builtin "len") (λxs H Q=>∃p ys,xs=[.ref p]/\(aX K H p ys\/bU K H p ys)/\Q (.int ys.length) H):=by subst h;exact wV
theorem gB:fz X (.builtin "isinstance") (λxs H Q=>∃x c t b,xs=[x,c]/\nK K H x t/\((∃n,c=.ty n/\W.kitOne K t (.type n)=some b)\/(∃a,c=.ref a/\W.kitOne K t (.ref a)=some b))/\Q (.bl b) H):=by subst h;exact yL
theorem uU:fz X (.type "list") (λxs H Q=>∃p ys,xs=[.ref p]/\(aX K H p ys\/bU K H p ys)/\∀l,H l=none->Q (.ref l) (upd H l (.lst ys))):=by subst h;exact wW
theorem Ar:lT X (compareOp .In) (RG K false):=by subst h;exact B7
theorem GP(hu:X.A.units<cLine):lT X (compareOp .NotEq) (Mb K):=by subst h;exact Jt hu
theorem cg{tg l:Expr}{tl:TE}(hl:PE X l tl):PI X tg l (Ii K tl):=by subst h;exact Gs hl
theorem GQ{tg l:Expr}{tl:TE}(hl:PE X l tl):PI X tg l (LN K tl):=by subst h;exact Ja hl
theorem GR{es:List Expr}{k:Nat}{pos:Pos}{t:Ig}(n:Nat)(hc:X.calm=true)(hh:LI X es t)(hn:(assignEach es X.env).length=n:=by rfl)(hst:(assignEach es X.env).findIdx? (·.1)=none:=by rfl):PG X (.Tuple es k pos) (LL K n t):=by subst h;exact IX hc hh hn hst
theorem aJ{e:Expr}{ta:TE}{f:Str}{pos:Pos}(he:PE X e ta)(hb:attributeBase e f X.env (eval e X.env)=eval e X.env):PE X (.Attribute e f pos) (LU K ta f):=by subst h;exact Jc he hb
theorem dw{o e:Expr}{es:List Expr}{to:TE}{t:TA}{name:Str}{apos cpos:Pos}{T id:String}{r:V->List V->Hp->VK->Prop}(pa:PlainAttrs T)(slot:Slot T name id)(hty:typeOf (.builtin id)=pure (.type "method_descriptor"))(hm:LZ X id r)(ho:PE X o to)(ha:PA X (e::es) t)(hbase:attributeBase o name X.env (eval o X.env)=eval o X.env:=by rfl)(hfew:((backTo cpos (starEach (e::es) X.env)).all (λx=>!x.1)&&(backToKw cpos (keywordEach [] X.env)).all (λx=>x.1.isSome)
  && decide ((e::es).length+([]:List Keyword).length+(if ([]:List Keyword).isEmpty then 0 else 1)<30))=true:=by rfl)(hline:(apos.endLine==cpos.line)=true:=by rfl)(hs:starEach (e::es) X.env=(false,eval e X.env)::starEach es X.env:=by rfl)(hplain:(backTo cpos (starEach es X.env)).any (·.1)=false:=by rfl):PE X (.Call (.Attribute o name apos) (e::es) [] cpos) (RI K T r to t):=by subst h;exact L1 pa slot hty hm ho ha hbase hfew hline hs hplain
end
section
variable{X:Cx}
theorem jt{x:Str}{z:Str}{t:Tok}{pos:Pos}(hg:Gl X x)(hm:X.mg x=some (.str z t))(hd:(x==("__debug__":Str))=false:=by decide):PE X (.Name x pos) (tC (.str z)):=wN hg hm ⟨t,rfl⟩ hd
theorem ju{x:Str}{a:Addr}{pos:Pos}(hg:Gl X x)(hm:X.mg x=some (.ref a))(hd:(x==("__debug__":Str))=false:=by decide):PE X (.Name x pos) (tC (.ref a)):=wN hg hm rfl hd
theorem Ju(n:String){x:Str}{pos:Pos}(hg:Gl X x)(hm:X.mg x=none)(hv:bootBuiltins x=some (.type n))(hn:x ≠ "__name__":=by decide)(hd:(x==("__debug__":Str))=false:=by decide):PE X (.Name x pos) (tC (.ty n)):=Gp hg hm hv rfl hn hd
end
structure D6(K:W.Frag)(x qual:Str)(st:Stmt)(f:Addr)(fd:FuncData)(dV:Value):Prop where
 ex:∃(oc:Value)(od:Option Addr)(kV doc pm:Value)(an:Option Addr)(cdv ct:Value)(osl:Array (Option Value)),fd=W.fnOf x qual (bZ st) (bN st) (aq st) dV kV doc pm an cdv ct/\K.lookup f=some ⟨oc,od,.func fd,osl⟩/\W.codeIn K cdv qual=true
 kp:W.keepIn K (.ref f)=true
section
variable{P:Program}{w:World}{K:W.Frag}{mg:Str->Option Value}{base:Heap}
theorem D6.ok{x qual:Str}{st:Stmt}{f:Addr}{fd:FuncData}{dV:Value}{N ps:List Str}{k:Nat}{sp:Sp}(F:D6 K x qual st f fd dV)(S:aG N ps (aq st))(len:∀vs H Q E,sp vs H Q E->vs.length=ps.length)(hbody:∀(cdv:Value)(A:Around)(outer:List Env)(s:Shared)(H:Hp)(vs:List V)(Q:VK)(E:XK),eg k (A.deeper (envOfC qual (aq st) s.heap.objs.size f cdv))->sp vs H Q E->∃t,Bg (Aj fT P w K mg base N qual (aq st) f cdv A outer s H E).K2 (bN st) t/\t {nx:=λ_ H'=>Q .non H',rt:=Q} (start N vs) H):bD P w K mg base fT (k+1) f fd ps sp:=by
 obtain⟨oc,od,kV,doc,pm,an,cdv,ct,osl,rfl,lk,hcd⟩:=F.ex
 refine Im lk hcd S len λA outer s H vs Q E hr FY=>?_
 obtain⟨t,h,q⟩:=hbody cdv A outer s H vs Q E hr FY
 exact⟨t,h.K2,q⟩
theorem Bu{x qual:Str}{st:Stmt}{f:Addr}{oc dV:Value}{od an:Option Addr}{osl:Array (Option Value)}{kV doc pm cdv ct:Value}(l:K.lookup f=some ⟨oc,od,.func (W.fnOf x qual (bZ st) (bN st) (aq st) dV kV doc pm an cdv ct),osl⟩)(c:W.codeIn K cdv qual=true)(k:W.keepIn K (.ref f)=true):D6 K x qual st f (W.fnOf x qual (bZ st) (bN st) (aq st) dV kV doc pm an cdv ct) dV:=⟨⟨oc,od,kV,doc,pm,an,cdv,ct,osl,rfl,l,c⟩,k⟩
end
section
variable{X:Cx}
theorem qH:∀{bs:List Bool}{us:List Value}{i:Nat}{u:Value},Vals (bs.map V.bl) us->us[i]?=some u->u=.bool (bs.getD i true)
 |[],_,_,_,r,e=>by cases r;simp at e
 |b::bs,_,i,u,r,e=>by
  cases r with
  |cons r1 r2 =>
   cases i with
   |zero=>simp at e;subst e;exact r1
   |succ i=>simp at e;simpa using qH r2 e
theorem all_range(bs:List Bool):((List.range bs.length).all λi=>bs.getD i true)=bs.all id:=by
 rw[Zu,Zs,Zs]
 constructor
 ·intro h b hb
  obtain⟨i,hi,rfl⟩:=List.mem_iff_getElem.mp hb
  have:=h i (by simpa using hi)
  simpa [List.getD,hi]using this
 ·intro h i hi
  have hi':i<bs.length:=by simpa using hi
  have:=h bs[i] (List.getElem_mem hi')
  simpa [List.getD,hi']using this
def Mc(K:W.Frag):List V->Hp->VK->Prop:=λxs H Q=>∃(p:Addr)(bs:List Bool),xs=[.ref p]/\aX K H p (bs.map V.bl)/\Q (.bl (bs.all id)) H
theorem D7(hc:X.calm=true):fz X (.builtin "all") (Mc X.K):=by
 intro pins s σ H xs us Q I r h
 obtain⟨p,bs,rfl,hq,q⟩:=h
 obtain⟨u,rfl,ru⟩:=vals1 r
 cases ru
 obtain⟨its,rv,pl,hz⟩:=I.list hq
 have hlen:=rv.length
 rw[YC]at hlen
 have hpl:p<s.heap.objs.size:=by obtain⟨o,ho,_⟩:=pl.isList;exact YQ ho
 refine call_all_walk (wpAny_pyIter_list pl.isList ⟨s.heap.objs.size,_,_,_,_,_,λi=>bs.getD i true,rfl,Walks.list (A:=X.A.in1) (show X.A.in1.handled=none from I.ok.hd hc) s.heap.objs.size p (Za hpl) its.toArray,⟨⟨_,Zi _ rfl,rfl,rfl⟩,pl.isList.at λo e=>YI _ e⟩,?_,?_⟩)
 ·intro i v s' Q' E' hv hq'
  have e:its[i]?=some v:=by simpa using hv
  rw[qH rv e]
  exact wpAny_truthy_bool hq'
 ·intro h' tk hk
  have f0:=I.uT (YB s.heap.objs.size) (I.hok.fresh (YB _))
  have I2:Inv X pins σ H {s with heap:=s.heap.push {cls:=.type "list_iterator",data:=.fields #[.ref p,rawInt 0]}}:=I.kept (t':=s.toks) λb o e=>YI _ e
  have I3:=I2.turned (h':=h') (t':=tk) (it:=s.heap.objs.size) (λb o hb e=>hk b o (by simpa using hb) e) f0.1 f0.2.1 f0.2.2.2.1 f0.2.2.2.2.1 f0.2.2.2.2.2
  refine⟨.bl (bs.all id),H,I3,?_,q⟩
  show Value.bool _=Value.bool _
  rw[YH,←hlen,all_range]
theorem lM(K:W.Frag)(h:X.K=K)(hc:X.calm=true):fz X (.builtin "all") (Mc K):=by subst h;exact D7 hc
def Jv:V->List V->Hp->VK->Prop:=λx vs H Q=>∃(z:Str)(c:Nat),x=.str z/\vs=[.str (sg c)]/\Q (.int (PyProof.Rows.cnt c z.cps.toList)) H
theorem yM:LZ X "str.count" Jv:=by
 intro pins s σ H x vs v us Q I rx rv h
 obtain⟨z,c,rfl,rfl,q⟩:=h
 obtain⟨t,rfl⟩:=rx
 obtain⟨u,rfl,ru⟩:=rv.one
 obtain⟨t',rfl⟩:=ru
 exact SC.count ⟨.int _,H,I.tok _,⟨_,rfl⟩,by
  have e:Txt.count z (sg c)=PyProof.Rows.cnt c z.cps.toList:=PyProof.Rows.count_is z c
  rw[e];exact q⟩
theorem Bv:∀{l:List Nat}{c:Nat},l.Nodup->c∈l->PyProof.Rows.cnt c l=1
 |[],_,_,h=>by cases h
 |n::r,c,nd,h=>by
  rw[PyProof.Rows.cnt_cons]
  obtain⟨n1,n2⟩:=ZK.mp nd
  by_cases e:n=c
  ·subst e
   rw[YA rfl,PyProof.Rows.cnt_none _ _ n1];rfl
  ·rw[Yz e,Bv n2 ((Y7.mp h).resolve_left (ZI e))];rfl
theorem tw:∀{x:V},ji x=true->Di x x=true
 | .non,_=>rfl
 | .bl b,_=>by cases b<;>rfl
 | .int i,_=>by simp[Di]
 | .str z,_=>by simp[Di]
end
inductive kD(K:W.Frag)(H:Hp):Nat->V->V->Prop where
 |flat {n:Nat}{x y:V}:ji x=true->ji y=true->Di x y=true->kD K H n x y
 |ref {n:Nat}{a:Addr}:kD K H n (.ref a) (.ref a)
 |tup {n:Nat}{a b:Addr}{xs ys:List V}:bU K H a xs->bU K H b ys->xs.length=ys.length->(∀(j:Nat) x y,xs[j]?=some x->ys[j]?=some y->kD K H n x y)->kD K H (n+1) (.ref a) (.ref b)
 |lst {n:Nat}{a b:Addr}{xs ys:List V}:aX K H a xs->aX K H b ys->xs.length=ys.length->(∀(j:Nat) x y,xs[j]?=some x->ys[j]?=some y->kD K H n x y)->kD K H (n+1) (.ref a) (.ref b)
theorem all_true(n:Nat):(List.range n).all (λ_=>true)=true:=by rw[Zs];intro _ _;rfl
section
variable{X:Cx}{pins:List (Addr×Obj)}{σ:St}{H:Hp}{s:Shared}
theorem jv{A:Around}{R:V->V->Prop}{xs ys:List V}{us ws:List Value}(r1:Vals xs us)(r2:Vals ys ws)(h:∀(j:Nat) x y u w,xs[j]?=some x->ys[j]?=some y->RelV x u->RelV y w->SeqAt.EqAt A s u w true)(j:Nat)(h1:j<us.toArray.size)(h2:j<ws.toArray.size):SeqAt.EqAt A s us.toArray[j] ws.toArray[j] true:=by
 have hl1:=r1.length
 have hl2:=r2.length
 have hj1:j<xs.length:=by rw[hl1];simpa using h1
 have hj2:j<ys.length:=by rw[hl2];simpa using h2
 obtain⟨u,eu,ru⟩:=r1.get (i:=j) (x:=xs[j]) (by simp[hj1])
 obtain⟨w,ew,rw'⟩:=r2.get (i:=j) (x:=ys[j]) (by simp[hj2])
 have e1:us.toArray[j]=u:=by
  obtain⟨_,q⟩:=YG.mp eu
  simpa using q
 have e2:ws.toArray[j]=w:=by
  obtain⟨_,q⟩:=YG.mp ew
  simpa using q
 rw[e1,e2]
 exact h j _ _ u w (by simp[hj1]) (by simp[hj2]) ru rw'
theorem vP(I:Inv X pins σ H s){n:Nat}{x y:V}(h:kD X.K H n x y):∀{A:Around}{u v:Value},A.units+n<cLine->RelV x u->RelV y v->SeqAt.EqAt A s u v true:=by
 induction h with
 |flat f1 f2 e=>intro A u v _ ru rv;rw[←e];exact DP ru rv f1 f2
 |ref=>intro A u v _ ru rv;cases ru;cases rv;exact SeqAt.EqAt.same _
 |@tup n a b xs ys ha hb hl _ ih =>
  intro A u v hu ru rv
  cases ru;cases rv
  by_cases e:a=b
  ·subst e;exact SeqAt.EqAt.same _
  ·obtain⟨its,r1,p1,_⟩:=I.tuple ha
   obtain⟨its2,r2,p2,_⟩:=I.tuple hb
   refine SeqAt.EqAt.of_refs e ?_
   have q:=SeqAt.RcAt.tuples (A:=A) (e:=λ_=>true) p1 p2 (by omega) λj h1 h2=>jv (R:=λ_ _=>True) r1 r2 (λj x y u w ex ey ru rw'=>ih j x y ex ey (by show A.units+1+n<cLine;omega) ru rw') j h1 h2
   have e2:((List.range (min its.toArray.size its2.toArray.size)).all (λ_=>true)&&its.toArray.size==its2.toArray.size)=true:=by
    rw[all_true,YH,YH,←r1.length,←r2.length,hl];simp
   rw[e2]at q
   exact q
 |@lst n a b xs ys ha hb hl _ ih =>
  intro A u v hu ru rv
  cases ru;cases rv
  by_cases e:a=b
  ·subst e;exact SeqAt.EqAt.same _
  ·obtain⟨its,r1,p1,_⟩:=I.list ha
   obtain⟨its2,r2,p2,_⟩:=I.list hb
   refine SeqAt.EqAt.of_refs e ?_
   have q:=SeqAt.RcAt.lists (A:=A) (e:=λ_=>true) p1.isList p2.isList (by rw[YH,YH,←r1.length,←r2.length,hl]) (by omega) λj h1 h2=>jv (R:=λ_ _=>True) r1 r2 (λj x y u w ex ey ru rw'=>ih j x y ex ey (by show A.units+1+n<cLine;omega) ru rw') j h1 h2
   rw[all_true]at q
   exact q
end
section
variable{X:Cx}
def TopD(K:W.Frag)(H:Hp)(x y:V):Prop:=∃(n:Nat)(a b:Addr)(xs ys:List V),x=.ref a/\y=.ref b/\n<=50/\xs.length=ys.length/\((bU K H a xs/\bU K H b ys)\/(aX K H a xs/\aX K H b ys))/\∀(j:Nat) x y,xs[j]?=some x->ys[j]?=some y->kD K H n x y
def OQ(K:W.Frag):R2:=λx y H Q=>TopD K H x y/\Q (.bl false) H
theorem wZ(K:W.Frag)(hK:X.K=K)(hu:X.A.units+64<cLine):lT X (compareOp .NotEq) (OQ K):=by
 subst hK
 intro pins s σ H x y v u Q I rx ry h
 obtain⟨⟨n,a,b,xs,ys,rfl,rfl,hn,hl,hk,hs⟩,q⟩:=h
 cases rx;cases ry
 show wpAny _ _ (richCompare .NotEq (.ref a) (.ref b)) _ _ _
 rcases hk with ⟨ha,hb⟩|⟨ha,hb⟩
 ·obtain⟨its,r1,p1,_⟩:=I.tuple ha
  obtain⟨its2,r2,p2,_⟩:=I.tuple hb
  refine SeqAt.RcNeAt.tuples (e:=λ_=>true) p1 p2 (by omega) (λj h1 h2=>jv (R:=λ_ _=>True) r1 r2 (λj x y u w ex ey ru rw'=>vP I (hs j x y ex ey) (by show X.A.units+1+n<cLine;omega) ru rw') j h1 h2) _ _ _ _ ⟨.bl false,H,I,?_,q⟩
  show Value.bool _=Value.bool _
  rw[all_true,YH,YH,←r1.length,←r2.length,hl];simp
 ·obtain⟨its,r1,p1,_⟩:=I.list ha
  obtain⟨its2,r2,p2,_⟩:=I.list hb
  refine SeqAt.RcNeAt.lists (e:=λ_=>true) p1.isList p2.isList (by rw[YH,YH,←r1.length,←r2.length,hl]) (by omega) (λj h1 h2=>jv (R:=λ_ _=>True) r1 r2 (λj x y u w ex ey ru rw'=>vP I (hs j x y ex ey) (by show X.A.units+1+n<cLine;omega) ru rw') j h1 h2) _ _ _ _ ⟨.bl false,H,I,?_,q⟩
  show Value.bool _=Value.bool _
  rw[all_true];rfl
def Jw(K:W.Frag):List V->Hp->VK->Prop:=λxs H Q=>∃(a:Addr)(c:String)(ys:List V)(b:Bool),xs=[.ref a,.ty c]/\((bU K H a ys/\W.kitOne K (.type "tuple") (.type c)=some b)\/(aX K H a ys/\W.kitOne K (.type "list") (.type c)=some b))/\Q (.bl b) H
theorem kE(K:W.Frag)(hK:X.K=K):fz X (.builtin "isinstance") (Jw K):=by
 subst hK
 intro pins s σ H xs us Q I r h
 obtain⟨a,c,ys,b,rfl,hk,q⟩:=h
 obtain⟨u,w',rfl,ru,rw'⟩:=vals2 r
 cases ru;cases rw'
 have fin:∀tk,EP X pins σ Q (.bool b) {s with toks:=tk}:=λtk=>⟨.bl b,H,I.tok tk,rfl,q⟩
 rcases hk with ⟨ha,e⟩|⟨ha,e⟩
 ·obtain⟨its,r1,p1,_⟩:=I.tuple ha
  obtain⟨o,h1,h2,_⟩:=p1
  exact ZE W.kitx_tuple I.pF ⟨o,h1,h2⟩ e (λz=>nomatch z) fin
 ·obtain⟨its,r1,p1,_⟩:=I.list ha
  obtain⟨o,h1,h2,_⟩:=p1.isList
  exact ZE W.kitx_list I.pF ⟨o,h1,h2⟩ e (λz=>nomatch z) fin
end
section
variable{X:Cx}
theorem sH{x:Str}{z:Int}{t:Tok}{pos:Pos}(hg:Gl X x)(hm:X.mg x=some (.int z t))(hd:(x==("__debug__":Str))=false:=by decide):PE X (.Name x pos) (tC (.int z)):=wN hg hm ⟨t,rfl⟩ hd
end
section
variable{X:Cx}{CX:Dh}{k:Nat}{f C:Addr}{fd:FuncData}{ps ks:List Str}{sp:Sp}{E:XK}{x m:Str}{p pos apos kpos:Pos}{e o:Expr}{es:List Expr}{kws:List Keyword}{te ta:TE}{t tk:TA}{nm:Option Str}{g:List Value->List Value->List Value}{gV:List V->List V->List V}
end
section
variable{X:Cx}{pins:List (Addr×Obj)}{σ:St}{H:Hp}{s:Shared}
end
section
variable{X:Cx}
end
theorem Jx{X:Cx}:RD X (λx lo hi H Q=>∃z,x=.str z/\z.length<=sizeLine/\Q (.str (Txt.slice z lo hi)) H):=by
 intro pins s σ H x v vl vu lo hi sl Q I rx hs pl pu h
 obtain⟨z,rfl,hz,q⟩:=h
 obtain⟨t,rfl⟩:=rx
 refine⟨"str",_,F.slot_str_getitem.lookup,typeIs_str _ _ _,?_⟩
 cases pl with
 |none =>
  cases pu with
  |none=>exact wpAny_getItem_str_slice (l:=none) (u:=none) (st:=none) hs rfl (post_val_or_str ⟨YU (Txt.slice_le z _ _) hz,λt' k=>⟨.str _,H,I.tok _,⟨_,rfl⟩,q⟩⟩)
  |int j uj=>exact wpAny_getItem_str_slice (l:=none) (u:=some (j,uj)) (st:=none) hs rfl (post_val_or_str ⟨YU (Txt.slice_le z _ _) hz,λt' k=>⟨.str _,H,I.tok _,⟨_,rfl⟩,q⟩⟩)
 |int i ui =>
  cases pu with
  |none=>exact wpAny_getItem_str_slice (l:=some (i,ui)) (u:=none) (st:=none) hs rfl (post_val_or_str ⟨YU (Txt.slice_le z _ _) hz,λt' k=>⟨.str _,H,I.tok _,⟨_,rfl⟩,q⟩⟩)
  |int j uj=>exact wpAny_getItem_str_slice (l:=some (i,ui)) (u:=some (j,uj)) (st:=none) hs rfl (post_val_or_str ⟨YU (Txt.slice_le z _ _) hz,λt' k=>⟨.str _,H,I.tok _,⟨_,rfl⟩,q⟩⟩)
section
variable{X:Cx}{pins:List (Addr×Obj)}{σ:St}{H:Hp}{s:Shared}{h':Heap}
theorem Inv.Bw{t':Nat}{wr:List Addr}(I:Inv X pins σ H s)(k:∀b o,b∉wr->s.heap.get? b=some o->h'.get? b=some o)(hf:∀it∈wr,jq X pins H it):Inv X pins σ H {s with heap:=h',toks:=t'}:=by
 have LC:∀b u,H b=some u->b∉wr:=λb u e z=>by rw[(hf b z).1]at e;cases e
 have hL:X.env.locals∉wr:=λz=>(hf _ z).2.1 rfl
 refine I.step (g':=s.gens) (d':=s.drawn) (ch:=wr) (λb hb=>?_) (λb o _ _ hc e _=>k b o hc e) (λb o _ _ hc e _=>⟨o.slots,k b o hc e⟩) (λ_ _ _ _ n=>n)
  (λb o hc e=>⟨o,k b o hc e⟩) (λ_ _ e=>e) (λ_ _ _ e=>e) (λb ps e=>⟨#[],by rw[e];simp⟩) (λm hm=>?_) (λb u e=>?_) I.bare
 ·obtain⟨f0,f1,f2,f3,f4,f5⟩:=hf b hb
  exact⟨f3,f1,f4,f5⟩
 ·obtain⟨o,es,ep,ho,r⟩:=hm
  exact⟨o,es,ep,k _ o hL ho,r⟩
 ·refine(I.hok b u e).stay (λc v hc q=>k c v ?_ q) (λ_ q=>q) λ_ _ q=>q
  rcases hc with z|z
  ·rw[z];exact LC b u e
  ·exact LC c _ z
end
def hmid(h h2:Heap):Heap:=⟨h.objs++(h2.objs.toList.drop h.objs.size).toArray,h2.life⟩
theorem D8{h h2:Heap}{a:Addr}(ha:a<h.objs.size):(hmid h h2).get? a=h.get? a:=by
 have e:(hmid h h2).objs[a]?=h.objs[a]?:=Array.getElem?_append_left ha
 unfold Heap.get?
 rw[e]
theorem D9{h h2:Heap}{a:Addr}(ha:h.objs.size<=a):(hmid h h2).get? a=h2.get? a:=by
 have e:(hmid h h2).objs[a]?=h2.objs[a]?:=by
  show(h.objs++(h2.objs.toList.drop h.objs.size).toArray)[a]?=_
  rw[Array.getElem?_append_right ha,List.getElem?_toArray,List.getElem?_drop,Array.getElem?_toList]
  congr 1
  omega
 unfold Heap.get?
 rw[e]
theorem Cc{X:Cx}{pins:List (Addr×Obj)}{σ:St}{H:Hp}{s:Shared}{E:Value->Shared->Prop}{it:Addr}{OR wr fp:List Addr}{n:Nat}{Pt:Nat->Array Value->Prop}{K7:Nat->Heap->Prop}{Mid:Nat->Addr->Heap->Prop}{elts:List Expr}{k:Nat}{pos:Pos}{J:It}{tn:Nat->Heap->Prop}{i:Nat}(W:WalksT X.prog X.w X.A it OR wr n Pt K7 Mid)(I:Inv X pins σ H s)(hfp:∀b∈fp,jq X pins H b)(hwr:∀b∈wr,b∈fp)(hsz:∀b∈fp,b<s.heap.objs.size)(hi:i<n)(hst:K7 i s.heap)(hv:∀vals,Pt i vals->∃vs:List V,vs.length<=sizeLine/\Vals vs vals.toList/\∀T,H T=none->J.FU i H (.ref T) (upd H T (.tup vs)))(T5:∀h,K7 (i+1) h->tn (i+1) h):wpAny (model X.prog X.w) X.A (pyNext (.ref it)) (λr s1=>∃u,r=some u/\wpAny (model X.prog X.w) X.A (letOwnedTupleGo (.Tuple elts k pos) (.ref it) u) (λ_ s2=>∃x H',Inv X pins σ H' s2/\RelV x u/\J.FU i H x H'/\tn (i+1) s2.heap/\∀b∈fp,H' b=none) E s1) E s:=by
 refine W.item i s _ E hi hst λT vals h1 tk T6 hT OS Me hk=>⟨.ref T,rfl,?_⟩
 have hap:=W.apart i T h1 Me
 refine W.go elts k pos i T _ _ E Me λh2 hSt hk2=>?_
 obtain⟨vs,hlen,Mf,hy⟩:=hv vals T6
 have T7:H T=none:=I.hok.fresh hT
 obtain⟨o,ho,hoc,m,hod⟩:=OS
 have ho2:h2.get? T=some o:=hk2 T o hap ho
 have I1:Inv X pins σ (upd H T (.tup vs)) {s with heap:=hmid s.heap h2,toks:=tk}:=by
  refine I.laid (λb u e=>(D8 (YQ e)).trans e) hT ?_
  refine⟨hlen,vals.toList,Mf,⟨o,(D9 hT).trans ho2,hoc,m,?_⟩⟩
  rw[hod]
 have hne:∀b∈fp,b≠T:=λb hb e=>by
  have:=hsz b hb
  rw[e]at this
  exact absurd this (Nat.not_lt.mpr hT)
 have I2:=I1.Bw (h':=h2) (t':=tk) (wr:=wr) (λb ob hb e=>?_) (λb hb=>?_)
 ·exact⟨.ref T,_,I2,O,hy T T7,T5 _ hSt,λb hb=>(az (hne b hb)).trans (hfp b hb).1⟩
 ·by_cases hlt:b<s.heap.objs.size
  ·have e:s.heap.get? b=some ob:=(D8 hlt).symm.trans e
   exact hk2 b ob hb (hk b ob hb e)
  ·exact(D9 (Nat.le_of_not_lt hlt)).symm.trans e
 ·have f:=hfp b (hwr b hb)
  exact⟨(az (hne b (hwr b hb))).trans f.1,f.2⟩
theorem Cd{X:Cx}{pins:List (Addr×Obj)}{σ:St}{H:Hp}{s:Shared}{E:Value->Shared->Prop}{it:Addr}{OR wr fp:List Addr}{n:Nat}{Pt:Nat->Array Value->Prop}{K7:Nat->Heap->Prop}{Mid:Nat->Addr->Heap->Prop}(W:WalksT X.prog X.w X.A it OR wr n Pt K7 Mid)(I:Inv X pins σ H s)(hfp:∀b∈fp,jq X pins H b)(hwr:∀b∈wr,b∈fp)(hst:K7 n s.heap):wpAny (model X.prog X.w) X.A (pyNext (.ref it)) (λr s1=>r=none/\Inv X pins σ H s1) E s :=
 W.done s _ E hst λh1 tk hk=>⟨rfl,I.Bw (h':=h1) (t':=tk) (wr:=wr) hk λb hb=>hfp b (hwr b hb)⟩
def K8(K:W.Frag)(a:Addr):It :=
 ⟨λi H=>∃xs x,aX K H a xs/\xs[i]?=some x,λi H v H'=>∃t x,H t=none/\v=.ref t/\H'=upd H t (.tup [.int i,x])/\∀xs,aX K H a xs->xs[i]?=some x,λi H=>∃xs,aX K H a xs/\xs.length=i⟩
theorem Ce{P:Program}{w:World}{K:W.Frag}{elts:List Expr}{k:Nat}{pos:Pos}{e it l:Addr}(hei:e≠it)(hle:l≠e)(hli:l≠it):Turn P w K (.Tuple elts k pos) (K8 K l) [e,it] e (λi h=>(∃old,IsEnum h e it i old)/\h.IsListIter it l i) where
 mem:=by simp
 obj:=λi h st b hb=>by
  obtain⟨⟨old,he⟩,⟨o1,e1,c1,d1⟩⟩:=st
  simp only[Y7,List.mem_nil_iff,or_false]at hb
  rcases hb with rfl|rfl
  ·exact⟨_,he,λv q=>by cases q⟩
  ·exact⟨_,e1,λv q=>by rw[d1]at q;cases q⟩
 keep:=λi h h' st k=>by
  obtain⟨⟨old,he⟩,q1⟩:=st
  exact⟨⟨old,k e (by simp) _ he⟩,q1.at λo x=>k it (by simp) o x⟩
 item:=by
  intro X hP hw hK hc i pins s σ H E I hf st hg
  subst hP hw hK
  obtain⟨xs,x,hx,ex⟩:=hg
  obtain⟨its,rv,p,hz⟩:=I.list hx
  obtain⟨u,hu,ru⟩:=rv.get ex
  obtain⟨s1,s2⟩:=id st
  have W:=WalksT.enumerate (prog:=X.prog) (w:=X.w) (A:=X.A) (I.ok.hd hc) e it l hei hle hli its.toArray
  refine Cc (J:=K8 X.K l) (tn:=λi h=>(∃old,IsEnum h e it i old)/\h.IsListIter it l i) W I hf (λb hb=>hb) ?_ ?_ ?_ ?_ ?_
  ·intro b hb
   simp only[Y7,List.mem_nil_iff,or_false]at hb
   obtain⟨old,s1⟩:=s1
   obtain⟨o1,e1,_⟩:=s2
   rcases hb with rfl|rfl
   ·exact YQ s1
   ·exact YQ e1
  ·have h1:=(YG.mp hu).1
   simpa using h1
  ·exact⟨s1,s2,p.isList⟩
  ·intro vals hp
   obtain⟨t,v1,e1,rfl⟩:=hp
   have e1:its[i]?=some v1:=by simpa using e1
   rw[hu]at e1;cases e1
   exact⟨[.int i,x],(by show 2<=sizeLine;decide),.cons ⟨_,O⟩ (.cons ru .nil),λT hT=>⟨T,x,hT,O,O,λzs hz=>by rw[I.yD hz hx];exact ex⟩⟩
  ·exact λh q=>⟨q.1,q.2.1⟩
 done:=by
  intro X hP hw hK hc i pins s σ H E I hf st hg
  subst hP hw hK
  obtain⟨xs,hx,hlen⟩:=hg
  obtain⟨its,rv,p,hz⟩:=I.list hx
  obtain⟨s1,s2⟩:=id st
  have e':i=its.toArray.size:=by rw[YH,←rv.length,hlen]
  subst e'
  have W:=WalksT.enumerate (prog:=X.prog) (w:=X.w) (A:=X.A) (I.ok.hd hc) e it l hei hle hli its.toArray
  exact Cd W I hf (λb hb=>hb) ⟨s1,s2,p.isList⟩
 self:=λ_ _ _ _ _ st h=>by
  obtain⟨⟨old,he⟩,_⟩:=st
  exact wpAny_pyIter_enum he h
def Mg(K:W.Frag)(ta:TA):TI:=λσ H R=>ta σ H λvs H1=>∃a,vs=[.ref a]/\(∃xs,aX K H1 a xs)/\R (K8 K a) H1
theorem Ea{X:Cx}{elts:List Expr}{k:Nat}{tpos:Pos}{a:Expr}{ta:TA}{p pos:Pos}(K:W.Frag)(hK:X.K=K)(hg:Gl X "enumerate")(hm:X.mg "enumerate"=none)(ha:PA X [a] ta)(hs:starEach [a] X.env=[(false,eval a X.env)]:=by rfl):PI X (.Tuple elts k tpos) (.Call (.Name "enumerate" p) [a] [] pos) (Mg K ta):=by
 subst hK
 intro pins s σ H R I h
 refine Call_ (pI I hg hm (u:=.type "enumerate") (by decide +kernel) (ZH (bV (ha pos pins s σ H _ I h) λus s1 ⟨vs,H1,I1,r1,q1⟩=>?_) hs rfl))
 obtain⟨l,e,⟨xs,hx⟩,q⟩:=q1
 subst e
 cases r1 with
 |cons r rr =>
  cases rr
  cases r
  obtain⟨its,rv,pl,hz⟩:=I1.list hx
  have hlt:l<s1.heap.objs.size:=by obtain⟨o,ho,_⟩:=pl.isList;exact YQ ho
  refine call_enumerate_list pl.isList λh' hE hI hsz hk=>?_
  refine wpAny_pyIter_enum hE ?_
  have I2:Inv X pins σ H1 {s1 with heap:=h'}:=I1.kept (t':=s1.toks) λb o e=>hk b o e
  refine⟨s1.heap.objs.size+1,_,_,_,H1,O,I2,Ce (Nat.succ_ne_self _) (Za (Nat.lt_succ_of_lt hlt)) (Za hlt),⟨⟨_,hE⟩,hI⟩,λb hb=>?_,q⟩
  have hb':s1.heap.objs.size<=b:=by
   simp only[Y7,List.mem_nil_iff,or_false]at hb
   rcases hb with rfl|rfl
   ·exact Nat.le_add_right _ _
   ·exact YB _
  exact I1.uT hb' (I1.hok.fresh hb')
theorem Eb{K:W.Frag}{a:Addr}{xs:List V}{g:TG}{tb:TS}{D:Ends}{σ:St}{H:Hp}(Pv:Nat->St->Hp->Prop)(h0:Pv 0 σ H)(hl:∀i σ H,i<=xs.length->Pv i σ H->aX K H a xs)(hs:∀i x t σ H,xs[i]?=some x->H t=none->Pv i σ H->g (.ref t) σ (upd H t (.tup [.int i,x])) λσ2 H2=>tb {D with nx:=Pv (i+1),ct:=Pv (i+1),bk:=D.nx} σ2 H2)(hd:∀σ H,Pv xs.length σ H->D.nx σ H):∃W:Nat->Nat->St->Hp->Prop,(∃m,W 0 m σ H)/\∀i m σ H,W i m σ H->((K8 K a).stop i H/\D.nx σ H)\/((K8 K a).go i H/\∃N:St->Hp->Prop,(∀σ' H',N σ' H'->∃m',m'<m/\W (i+1) m' σ' H')/\∀x H',(K8 K a).FU i H x H'->g x σ H' λσ2 H2=>tb {D with nx:=N,ct:=N,bk:=D.nx} σ2 H2):=by
 refine⟨λi m σ H=>m=xs.length-i/\i<=xs.length/\Pv i σ H,⟨xs.length,by simp,Zd _,h0⟩,?_⟩
 rintro i m σ H ⟨rfl,hi,p⟩
 have q:=hl i σ H hi p
 by_cases hlt:i<xs.length
 ·refine .inr ⟨⟨xs,xs[i],q,by simp[hlt]⟩,Pv (i+1),λσ' H' p'=>⟨xs.length-(i+1),by omega,rfl,hlt,p'⟩,λv H' y=>?_⟩
  obtain⟨t,x,ht,e1,e2,ex⟩:=y
  subst e1 e2
  exact hs i x t σ _ (ex xs q) ht p
 ·have e:i=xs.length:=by omega
  subst e
  exact .inl ⟨⟨xs,q,rfl⟩,hd σ H p⟩
def Mh(K:W.Frag):List V->Hp->VK->Prop:=λxs H Q=>∃(p:Addr)(ns:List Nat),xs=[.ref p]/\aX K H p (ns.map λn:Nat=>V.int n)/\ns.sum<1000000/\Q (.int (ns.sum:Nat)) H
theorem pre_take(ns:List Nat):∀k,k<=ns.length->preSum (λi=>((ns.getD i 0:Nat):Int)) k=((ns.take k).sum:Nat)
 | 0,_=>rfl
 |k+1,h=>by
  show preSum _ k+((ns.getD k 0:Nat):Int)=_
  rw[pre_take ns k (by omega)]
  have hk:k<ns.length:=by omega
  rw[List.take_succ,YV hk,Zv]
  simp[List.getD,YV hk]
theorem iC(ns:List Nat)(k:Nat):(ns.take k).sum<=ns.sum:=by
 have e:=congrArg List.sum (List.take_append_drop k ns)
 rw[Zv]at e
 omega
theorem nP:∀{ns:List Nat}{us:List Value}{i:Nat}{v:Value},Vals (ns.map λn:Nat=>V.int n) us->us[i]?=some v->∃t,v=.int (ns.getD i 0:Nat) t
 |[],_,i,v,r,e=>by cases r;simp at e
 |n::ns,_,0,v,r,e=>by
  cases r with
  |cons r1 r2 =>
   simp at e
   subst e
   obtain⟨t,e⟩:=r1
   exact⟨t,by simpa using e⟩
 |n::ns,_,i+1,v,r,e=>by
  cases r with
  |cons r1 r2 =>
   obtain⟨t,e2⟩:=nP r2 (i:=i) (v:=v) (by simpa using e)
   exact⟨t,by simpa using e2⟩
theorem Cf{X:Cx}(hc:X.calm=true):fz X (.builtin "sum") (Mh X.K):=by
 intro pins s σ H xs us Q I r h
 obtain⟨p,ns,rfl,hq,hs,q⟩:=h
 obtain⟨u,rfl,ru⟩:=vals1 r
 cases ru
 obtain⟨its,rv,pl,hz⟩:=I.list hq
 have hlen:=rv.length
 rw[YC]at hlen
 have hpl:p<s.heap.objs.size:=by obtain⟨o,ho,_⟩:=pl.isList;exact YQ ho
 refine call_sum_walk (wpAny_pyIter_list pl.isList ⟨s.heap.objs.size,_,_,_,_,_,λi=>((ns.getD i 0:Nat):Int),rfl,Walks.list (A:=X.A.in1) (show X.A.in1.handled=none from I.ok.hd hc) s.heap.objs.size p (Za hpl) its.toArray,⟨⟨_,Zi _ rfl,rfl,rfl⟩,pl.isList.at λo e=>YI _ e⟩,?_,?_,?_,?_⟩)
 ·intro b hb
  have e:b=s.heap.objs.size\/b=p:=by simpa using hb
  show b<(s.heap.push _).objs.size
  rw[ZF]
  rcases e with rfl|rfl
  ·exact Nat.lt_succ_self _
  ·exact Nat.lt_succ_of_lt hpl
 ·intro i v hv
  exact nP rv (by simpa using hv)
 ·intro j hj
  have hj':j<ns.length:=by rw[hlen];simpa using hj
  have h1:=iC ns (j+1)
  have h2:ns.getD j 0<=ns.sum:=by
   have:=iC ns (j+1)
   rw[List.take_succ,YV hj',Zv]at this
   simp[List.getD,YV hj']at this⊢
   omega
  rw[pre_take ns (j+1) (by omega)]
  show InLong ((ns.getD j 0:Nat):Int)/\_
  constructor<;>(unfold InLong;constructor<;>omega)
 ·intro h' tk t' hk
  have f0:=I.uT (YB s.heap.objs.size) (I.hok.fresh (YB _))
  have I2:Inv X pins σ H {s with heap:=s.heap.push {cls:=.type "list_iterator",data:=.fields #[.ref p,rawInt 0]}}:=I.kept (t':=s.toks) λb o e=>YI _ e
  have I3:=I2.turned (h':=h') (t':=tk) (it:=s.heap.objs.size) (λb o hb e=>hk b o (by simpa using hb) e) f0.1 f0.2.1 f0.2.2.2.1 f0.2.2.2.2.1 f0.2.2.2.2.2
  refine⟨.int (ns.sum:Nat),H,I3,⟨t',?_⟩,q⟩
  rw[YH,←hlen,pre_take ns _ (YB _),YR (YB _)]
theorem pM{X:Cx}(K:W.Frag)(h:X.K=K)(hc:X.calm=true):fz X (.builtin "sum") (Mh K):=by subst h;exact Cf hc
section
variable{X:Cx}
def lV(z:Str)(n:Nat):Str:=⟨(List.replicate n z.cps).foldl (· ++ ·) #[]⟩
end
section
variable{X:Cx}
end
section
variable{prog:Program}{w:World}{A:Around}{E:Value->Shared->Prop}{s:Shared}
end
section
variable{prog:Program}{w:World}{A:Around}{E:Value->Shared->Prop}{s:Shared}
end
section
variable{prog:Program}{w:World}{A:Around}{E:Value->Shared->Prop}{s:Shared}
end
section
variable{X:Cx}
end
section
variable{X:Cx}{pins:List (Addr×Obj)}{σ:St}{H:Hp}{s:Shared}
end
section
variable{X:Cx}
end
structure mC(prog:Program)(w:World)(K:Type)[DecidableEq K] where
 is:Heap->K->Value->Prop
 hash:K->Int
 draws:K->Nat
 fW:Nat
 inj:∀{h:Heap}{v:Value}{x y:K},is h x v->is h y v->x=y
 keeps:∀{h h':Heap}{k:K}{v:Value}{d:Addr}{o:Obj}{es ep},is h k v->h.get? d=some o->o.data=.dict es ep->Heap.SameBut d h h'->is h' k v
 pyHash:∀{A:Around}{E:Value->Shared->Prop}{s:Shared}{k:K}{v:Value}{Q:Int->Shared->Prop},A.units+fW<cLine->is s.heap k v->Q (hash k) {s with toks:=s.toks+draws k}->wpAny (model prog w) A (PySem.pyHash v) Q E s
 eq:∀{A:Around}{s:Shared}{x y:K}{u v:Value},A.units+fW<cLine->is s.heap x u->is s.heap y v->SeqAt.EqAt A s u v (decide (x=y))
 quiet:∀{A:Around}{E:Value->Shared->Prop}{s:Shared}{k:K}{v:Value}{Q:Bool->Shared->Prop}{n:Nat},fW<=n->is s.heap k v->Q true s->wpAny (model prog w) A (eqIsQuiet n v) Q E s
section
variable{prog:Program}{w:World}{K:Type}[DecidableEq K](V:mC prog w K)
def TupIs(h:Heap)(ks:List K)(a:Addr):Prop:=∃o items n,h.get? a=some o/\o.cls=.type "tuple"/\o.data=.seq items n/\Paired (λk v=>V.is h k v) ks items.toList
def sI(ks:List K):Int:=reduceHash (Builtin.Tuple.tupleHashOf (ks.map V.hash))
variable{V}
theorem TupIs.ty{s:Shared}{ks:List K}{a:Addr}(x:TupIs V s.heap ks a):s.TypeIs (.ref a) "tuple":=by obtain⟨o,_,_,ho,hc,_⟩:=x;exact⟨o,ho,hc⟩
theorem tD{h:Heap}:∀{x y:List K}{vs:List Value},Paired (λk v=>V.is h k v) x vs->Paired (λk v=>V.is h k v) y vs->x=y
 |_,_,_,.nil,.nil=>rfl
 |_,_,_,.cons a r,.cons b q=>by rw[V.inj a b,tD r q]
theorem TupIs.inj{h:Heap}{a:Addr}{x y:List K}(hx:TupIs V h x a)(hy:TupIs V h y a):x=y:=by
 obtain⟨o,items,n,ho,_,hd,hi⟩:=hx
 obtain⟨o',items',n',ho',_,hd',hi'⟩:=hy
 rw[ho]at ho'
 cases ho'
 rw[hd]at hd'
 cases hd'
 exact tD hi hi'
theorem TupIs.keeps{h h':Heap}{ks:List K}{a d:Addr}{o:Obj}{es ep}(x:TupIs V h ks a)(ho:h.get? d=some o)(hd:o.data=.dict es ep)(hs:Heap.SameBut d h h'):TupIs V h' ks a:=by
 obtain⟨o',items,n,e1,e2,e3,e4⟩:=x
 have hne:a≠d:=λe=>by
  subst e
  rw[e1]at ho
  cases ho
  rw[hd]at e3;cases e3
 exact⟨o',items,n,(hs.2 a hne).trans e1,e2,e3,Paired.BV e4 λk v q=>V.keeps q ho hd hs⟩
variable{A:Around}{E:Value->Shared->Prop}{s:Shared}
theorem yN{ks:List K}{a:Addr}{Q:Int->Shared->Prop}(hu:A.units+(V.fW+1)<cLine)(hk:TupIs V s.heap ks a)(h:Q (sI V ks) {s with toks:=s.toks+((ks.map V.draws).sum+1)}):wpAny (model prog w) A (pyHash (.ref a)) Q E s:=by
 have hT:=hk.ty
 have iz:A.units<cLine:=by omega
 obtain⟨o,items,n,ho,_,hd,hi⟩:=hk
 unfold pyHash
 first|unfold pyHashByItsType|skip
 first|refine YD (wpAny_cRoomFor_or (.inr iz) ?_)|skip
 refine YD (ZC hT F.slot_tuple_hash.lookup ?_);show wpAny _ _ (if (some (Value.builtin "tuple.__hash__")==some Value.none)=true then _ else _) Q E s
 rw[Yz (by rw[beq_builtin_none];exact YN)];refine YD (ZC hT F.slot_tuple_hash.lookup ?_)
 show wpAny _ _ (callSpecialIfBoundUnlessNone? (.ref a) "__hash__" _ >>= _) Q E s;refine YD (wpAny_callSpecialIfBoundUnlessNone?_slot hT F.slot_tuple_hash (wpAny_call_entry F.slot_tuple_hash hT F.entry_tuple_hash ?_ (F.args_tuple_hash_1 _)))
 have hu1:A.in1.units+V.fW<cLine:=by show A.units+1+V.fW<cLine;omega
 show wpAny _ _ (Builtin.Tuple.tupleItemsOf (.ref a) >>= _) _ _ s
 refine YD (wpAny_tupleItemsOf ho hd (YD ?_))
 rw[←Array.forIn_toList]
 refine wpAny_forIn_list _ (λrest (b:Array Int) s'=>∃done left,ks=done++left/\Paired (λk v=>V.is s.heap k v) left rest/\b.toList=done.map V.hash/\s'={s with toks:=s.toks+(done.map V.draws).sum}) _ ?_ ?_ _ _ ⟨[],ks,rfl,hi,rfl,rfl⟩
 ·rintro x rest b s' ⟨done,left,rfl,hl,hb,rfl⟩
  cases hl with
  |@cons k _ ks' _ h1 hl' =>
   have fin:∃d l,done++k::ks'=d++l/\Paired (λk v=>V.is s.heap k v) l rest/\(b.push (V.hash k)).toList=d.map V.hash/\({s with toks:=s.toks+(done.map V.draws).sum+V.draws k}:Shared)={s with toks:=s.toks+(d.map V.draws).sum}:=⟨done++[k],ks',by simp,hl',by simp[hb],by simp[Nat.add_assoc]⟩
   refine YD (V.pyHash hu1 h1 ?_)
   first
    |exact Y5 fin
    |exact YD (Y5 (Y5 fin))
 ·rintro b s' ⟨done,left,rfl,hl,hb,rfl⟩
  cases hl
  rw[Ze]at h
  show wpAny _ _ (retInt (Builtin.Tuple.tupleHashOf b.toList)) _ _ _
  rw[hb]
  refine wpAny_ret_mkInt ?_
  generalize hz:Builtin.Tuple.tupleHashOf (done.map V.hash)=z
  unfold sI reduceHash at h
  rw[hz]at h
  show wpAny _ _ (if (decide (-(2:Int) ^ 63<=z)&&decide (z<2 ^ 63))=true then _ else _) Q E _
  by_cases hr:(decide (-(2:Int) ^ 63<=z)&&decide (z<2 ^ 63))=true
  ·rw[YA hr]at h⊢
   exact Y5 (by simpa [Nat.add_assoc]using h)
  ·rw[Yz hr]at h⊢
   exact YD (wpAny_rule (Y5 (by simpa [Nat.add_assoc]using h)))
theorem tE{x y:List K}:((List.range (min x.length y.length)).all (λj=>decide (x[j]?=y[j]?))&&x.length==y.length)=decide (x=y):=by
 rw[Zu,Bool.and_eq_true,Zs,decide_eq_true_iff,beq_iff_eq]
 constructor
 ·rintro⟨q,hl⟩
  refine List.ext_getElem? λi=>?_
  by_cases hi:i<x.length
  ·exact Zg (q i (List.mem_range.mpr (by omega)))
  ·rw[Zz (by omega),Zz (by omega)]
 ·rintro rfl
  exact⟨λi _=>YJ rfl,O⟩
theorem gQ{F:K->Value->Prop}:∀{ks:List K}{vs:List Value},Paired F ks vs->∀(j:Nat) v,vs[j]?=some v->∃k,ks[j]?=some k/\F k v
 |_,_,.nil,j,v,h=>by simp at h
 |_,_,.cons a r,0,v,h=>by cases h;exact⟨_,rfl,a⟩
 |_,_,.cons a r,j+1,v,h=>by
  rw[List.getElem?_cons_succ]at h
  obtain⟨k,e,q⟩:=gQ r j v h
  exact⟨k,by rw[List.getElem?_cons_succ];exact e,q⟩
theorem Ec{x y:List K}{a b:Addr}(hu:A.units+(V.fW+1)<cLine)(hx:TupIs V s.heap x a)(hy:TupIs V s.heap y b):SeqAt.EqAt A s (.ref a) (.ref b) (decide (x=y)):=by
 by_cases e:a=b
 ·subst e
  rw[YJ (hx.inj hy)]
  exact SeqAt.EqAt.same _
 ·obtain⟨o,items,n,h1,h2,h3,h4⟩:=hx
  obtain⟨o',items',n',OT,h2',h3',Mi⟩:=hy
  have l1:x.length=items.size:=by rw[ZO h4,YX]
  have l2:y.length=items'.size:=by rw[ZO Mi,YX]
  refine SeqAt.EqAt.of_refs e ?_
  rw[←tE,l1,l2]
  refine SeqAt.RcAt.tuples ⟨o,h1,h2,n,h3⟩ ⟨o',OT,h2',n',h3'⟩ (by omega) λj j1 j2=>?_
  obtain⟨k,ek,hk⟩:=gQ h4 j items[j] (by simp[j1])
  obtain⟨k',OU,hk'⟩:=gQ Mi j items'[j] (by simp[j2])
  rw[ek,OU,show decide (some k=some k')=decide (k=k') by simp]
  exact V.eq (by show A.units+1+V.fW<cLine;omega) hk hk'
theorem vQ{ks:List K}{a:Addr}{Q:Bool->Shared->Prop}{n:Nat}(hn:V.fW+1<=n)(hk:TupIs V s.heap ks a)(h:Q true s):wpAny (model prog w) A (eqIsQuiet n (.ref a)) Q E s:=by
 have hT:=hk.ty
 obtain⟨o,items,m,ho,_,hd,hi⟩:=hk
 obtain⟨n,rfl⟩:∃n',n=n'+1:=⟨n-1,by omega⟩
 unfold eqIsQuiet
 refine YD (ZC hT F.slot_tuple_eq.lookup ?_);show wpAny _ _ (isInstance (.ref a) (.type "tuple") >>= _) _ _ s
 refine YD (wpAny_isInstance hT isSubtype_tuple_tuple ?_)
 simp only[ZX,Zj,ZS]
 refine YD (wpAny_seqItems ho hd (YD ?_))
 show wpAny _ _ (forIn items _ _) _ _ s
 rw[←Array.forIn_toList]
 refine wpAny_forIn_list _ (λrest r s'=>r.1=none/\s'=s/\∃l,Paired (λk v=>V.is s.heap k v) l rest) _ ?_ ?_ _ _ ⟨rfl,rfl,ks,hi⟩
 ·rintro v rest r s' ⟨hr,rfl,l,hl⟩
  cases hl with
  |@cons k _ ks' _ h1 hl' =>
   refine YD (V.quiet (by omega) h1 ?_)
   simp only[ZX,Zj,ZS]
   exact Y5 ⟨rfl,rfl,ks',hl'⟩
 ·rintro⟨r1,r2⟩ s' ⟨hr,rfl,_⟩
  simp only at hr
  subst hr
  exact Y5 h
end
abbrev Lf:=Option Key
def yO:Lf->Value->Prop
 |none,v=>v=.none
 |some k,v=>qD k v=true
section
variable{prog:Program}{w:World}{A:Around}{E:Value->Shared->Prop}{s:Shared}
theorem Cg{Q:Int->Shared->Prop}(hu:A.units<cLine)(h:Q 4238894112 {s with toks:=s.toks+1}):wpAny (model prog w) A (pyHash .none) Q E s:=by
 have hT:s.TypeIs .none "NoneType":=rfl
 unfold pyHash
 first|unfold pyHashByItsType|skip
 first|refine YD (wpAny_cRoomFor_or (.inr hu) ?_)|skip
 refine YD (ZC hT F.slot_NoneType_hash.lookup ?_)
 show wpAny _ _ (if (some (Value.builtin "NoneType.__hash__")==some Value.none)=true then _ else _) Q E s
 rw[Yz (by rw[beq_builtin_none];exact YN)];refine YD (ZC hT F.slot_NoneType_hash.lookup ?_)
 show wpAny _ _ (callSpecialIfBoundUnlessNone? .none "__hash__" _ >>= _) Q E s
 refine YD (wpAny_callSpecialIfBoundUnlessNone?_slot hT F.slot_NoneType_hash (wpAny_call_entry F.slot_NoneType_hash hT F.entry_NoneType_hash ?_ (F.args_NoneType_hash_1 _)))
 show wpAny _ _ (retInt 4238894112) _ _ _
 refine wpAny_ret_mkInt ?_
 show wpAny _ _ (if (decide (-(2:Int) ^ 63<=4238894112)&&decide ((4238894112:Int)<2 ^ 63))=true then _ else _) Q E _
 rw[YA (by decide)]
 exact Y5 h
theorem iV{k:Key}{v:Value}(h:qD k v=true):(∃i t,k=.inl i/\v=.int i t)\/∃z t,k=.inr z/\v=.str z t:=bO h
theorem Ed(prog:Program)(w:World){v:Value}{x y:Lf}(hx:yO x v)(hy:yO y v):x=y:=by
 cases x with
 |none =>
  cases y with
  |none=>rfl
  |some k=>rcases iV hy with ⟨i,t,rfl,e⟩|⟨z,t,rfl,e⟩<;>(rw[show v=.none from hx]at e;cases e)
 |some k =>
  cases y with
  |none=>rcases iV hx with ⟨i,t,rfl,e⟩|⟨z,t,rfl,e⟩<;>(rw[show v=.none from hy]at e;cases e)
  |some k'=>rw[(jo prog w).inj v k k' hx hy]
theorem Ip{x y:Lf}{u v:Value}(hx:yO x u)(hy:yO y v):SeqAt.EqAt A s u v (decide (x=y)):=by
 cases x with
 |none =>
  have hx:u=.none:=hx
  subst hx
  cases y with
  |none =>
   have hy:v=.none:=hy
   subst hy
   rw[YJ rfl];exact SeqAt.EqAt.same _
  |some k =>
   rw[YK (by simp)]
   rcases iV hy with ⟨i,t,rfl,rfl⟩|⟨z,t,rfl,rfl⟩
   ·exact SeqAt.EqAt.none_int _ _
   ·exact SeqAt.EqAt.none_str _ _
 |some k =>
  cases y with
  |none =>
   have hy:v=.none:=hy
   subst hy
   rw[YK (by simp)]
   rcases iV hx with ⟨i,t,rfl,rfl⟩|⟨z,t,rfl,rfl⟩
   ·exact SeqAt.EqAt.int_none _ _
   ·exact SeqAt.EqAt.str_none _ _
  |some k' =>
   rw[show decide (some k=some k')=decide (k=k') by simp]
   rcases iV hx with ⟨i,t,rfl,rfl⟩|⟨z,t,rfl,rfl⟩<;>rcases iV hy with ⟨i',t',rfl,rfl⟩|⟨z',t',rfl,rfl⟩
   ·rw[Dp];exact SeqAt.EqAt.int_int _ _ _ _
   ·rw[Dr];exact SeqAt.EqAt.int_str _ _ _ _
   ·rw[Ds];exact SeqAt.EqAt.str_int _ _ _ _
   ·rw[Dq,show decide (z=z')=(z==z') by rw[Zu,decide_eq_true_iff,beq_iff_eq]];exact SeqAt.EqAt.str_str _ _ _ _
theorem As{x:Lf}{v:Value}(h:yO x v):carriedByValue v=true:=by
 cases x with
 |none=>rw[show v=.none from h];rfl
 |some k=>rcases iV h with ⟨i,t,rfl,rfl⟩|⟨z,t,rfl,rfl⟩<;>rfl
end
def Ef(w:World):Lf->Int
 |none=>4238894112
 |some k=>Lx w k
def yP(prog:Program)(w:World):mC prog w Lf where
 is:=λ_ k v=>yO k v
 hash:=Ef w
 draws:=λ_=>1
 fW:=0
 inj:=λhx hy=>Ed prog w hx hy
 keeps:=λh _ _ _=>h
 pyHash:=λ{A E s k v Q} hu h q=>by
  cases k with
  |none =>
   have h:v=.none:=h
   subst h
   exact Cg hu q
  |some k=>exact(jo prog w).pyHash h q
 eq:=λ_ hx hy=>Ip hx hy
 quiet:=λ{A E s k v Q n} _ h q=>by rw[eqIsQuiet_byValue n (As h)];exact Y5 q
section
variable{prog:Program}{w:World}{K:Type}[DecidableEq K](V:mC prog w K)
def Jy(h:Heap):Lf⊕List K->Value->Prop
 | .inl k,v=>yO k v
 | .inr ks,v=>∃a,v=.ref a/\TupIs V h ks a
def Jz:Lf⊕List K->Int
 | .inl k=>Ef w k
 | .inr ks=>sI V ks
def GS:Lf⊕List K->Nat
 | .inl _=>1
 | .inr ks=>(ks.map V.draws).sum+1
variable{V}
theorem Eg{k:Lf}{a:Addr}(h:yO k (.ref a)):False:=by
 cases k with
 |none=>cases(show Value.ref a=.none from h)
 |some k=>rcases iV h with ⟨i,t,rfl,e⟩|⟨z,t,rfl,e⟩<;>cases e
theorem Mj{A:Around}{s:Shared}{x y:Lf⊕List K}{u v:Value}(hu:A.units+(V.fW+1)<cLine)(hx:Jy V s.heap x u)(hy:Jy V s.heap y v):SeqAt.EqAt A s u v (decide (x=y)):=by
 cases x with
 |inl k =>
  cases y with
  |inl k' =>
   rw[show decide ((Sum.inl k:Lf⊕List K)=.inl k')=decide (k=k') by simp]
   exact Ip hx hy
  |inr ks =>
   obtain⟨a,rfl,o,items,n,h1,h2,h3,h4⟩:=hy
   rw[YK (λq=>nomatch q)]
   cases k with
   |none =>
    have hx:u=.none:=hx
    subst hx
    exact SeqAt.EqAt.none_tuple ⟨o,h1,h2,n,h3⟩ (by omega)
   |some k =>
    rcases iV hx with ⟨i,t,rfl,rfl⟩|⟨z,t,rfl,rfl⟩
    ·exact SeqAt.EqAt.int_tuple _ _ ⟨o,h1,h2,n,h3⟩ (by omega)
    ·exact SeqAt.EqAt.str_tuple _ _ ⟨o,h1,h2,n,h3⟩ (by omega)
 |inr ks =>
  obtain⟨a,rfl,hxa⟩:=hx
  cases y with
  |inl k' =>
   obtain⟨o,items,n,h1,h2,h3,h4⟩:=hxa
   rw[YK (λq=>nomatch q)]
   cases k' with
   |none =>
    have hy:v=.none:=hy
    subst hy
    exact SeqAt.EqAt.tuple_none ⟨o,h1,h2,n,h3⟩ (by omega)
   |some k =>
    rcases iV hy with ⟨i,t,rfl,rfl⟩|⟨z,t,rfl,rfl⟩
    ·exact SeqAt.EqAt.tuple_int _ _ ⟨o,h1,h2,n,h3⟩ (by omega)
    ·exact SeqAt.EqAt.tuple_str _ _ ⟨o,h1,h2,n,h3⟩ (by omega)
  |inr ks' =>
   obtain⟨b,rfl,OV⟩:=hy
   rw[show decide ((Sum.inr ks:Lf⊕List K)=.inr ks')=decide (ks=ks') by simp]
   exact Ec hu hxa OV
def stepK(V:mC prog w K):mC prog w (Lf⊕List K) where
 is:=Jy V
 hash:=Jz V
 draws:=GS V
 fW:=V.fW+1
 inj:=λ{h v x y} hx hy=>by
  cases x with
  |inl k =>
   cases y with
   |inl k'=>rw[Ed prog w hx hy]
   |inr ks=>obtain⟨a,rfl,_⟩:=hy;exact(Eg hx).elim
  |inr ks =>
   obtain⟨a,rfl,hxa⟩:=hx
   cases y with
   |inl k'=>exact(Eg hy).elim
   |inr ks'=>obtain⟨b,e,OV⟩:=hy;cases e;rw[hxa.inj OV]
 keeps:=λ{h h' k v d o es ep} hx ho hd hs=>by
  cases k with
  |inl k=>exact hx
  |inr ks=>obtain⟨a,rfl,hxa⟩:=hx;exact⟨a,rfl,hxa.keeps ho hd hs⟩
 pyHash:=λ{A E s k v Q} hu hx q=>by
  cases k with
  |inl k=>exact(yP prog w).pyHash (by show A.units+0<cLine;omega) hx q
  |inr ks=>obtain⟨a,rfl,hxa⟩:=hx;exact yN hu hxa q
 eq:=λhu hx hy=>Mj hu hx hy
 quiet:=λ{A E s k v Q n} hn hx q=>by
  cases k with
  |inl k=>exact(yP prog w).quiet (Zd _) hx q
  |inr ks=>obtain⟨a,rfl,hxa⟩:=hx;exact vQ hn hxa q
def tF(V:mC prog w K)(hl:V.fW+1<=8):HeapKind prog w (List K) where
 is:=TupIs V
 hash:=sI V
 draws:=λks=>(ks.map V.draws).sum+1
 room:=λA=>A.units+(V.fW+1)<cLine
 inj:=λhx hy=>hx.inj hy
 keeps:=λx ho hd hs=>x.keeps ho hd hs
 pyHash:=λhu hk h=>yN hu hk h
 eqBool:=λhu hx hy h=>Ec hu hx hy prog w _ _ h
 quiet:=λhk h=>vQ hl hk h
end
section
variable{κ:Type}[DecidableEq κ]
theorem nI.vR{o:Option V}{u:Option Value}(r:nI o u):o.isSome=u.isSome:=by
 cases o with
 |none=>cases u with
  |none=>rfl
  |some _=>exact(show False from r).elim
 |some _=>cases u with
  |none=>exact(show False from r).elim
  |some _=>rfl
theorem KV.length{kvs:List (κ×V)}{vs:List (κ×Value)}(r:KV kvs vs):kvs.length=vs.length:=ZO r
end
theorem Ml{P:Program}{w:World}{k:Key}{u:Value}(r:RelV (kV k) u):(jo P w).is k u=true:=by
 cases k with
 |inl i=>obtain⟨t,e⟩:=(show ∃t,u=Value.int i t from r);subst e;exact yw P w i t
 |inr x=>obtain⟨t,e⟩:=(show ∃t,u=Value.str x t from r);subst e;exact yx P w x t
section
variable{P:Program}{w:World}{H:Hp}{h:Heap}{a:Addr}
end
section
variable{X:Cx}{pins:List (Addr×Obj)}{σ:St}{H:Hp}{s:Shared}{a:Addr}{y v:V}{u r:Value}{o:Option V}{A:Around}{E:Value->Shared->Prop}
theorem Inv.big(I:Inv X pins σ H s):sysModules<s.heap.objs.size:=by
 have h:mainGlobals<s.heap.objs.size:=(I.mod.glob.keeps I.bk).lt
 exact Nat.lt_trans (by decide) h
end
section
variable{X:Cx}{pins:List (Addr×Obj)}{σ:St}{H:Hp}{s:Shared}{a:Addr}{kvs:List (Key×V)}{k:Key}{u:Value}{A:Around}{E:Value->Shared->Prop}
end
def JA(i:Expr):Prop:=∀ov iv,subscripted i false ov iv=operate [ov,iv] (getItem ov iv)
theorem GU{prog:Program}{w:World}{A:Around}{E:Value->Shared->Prop}{s:Shared}{env:Env}{value slice:Expr}{pos:Pos}{T id:String}{Q:Value->Shared->Prop}(hl:typeLookup (.type T) "__getitem__"=pure (some (.builtin id)))(hs:JA slice)(h:wpAny (model prog w) A (eval value env) (λo s₁=>wpAny (model prog w) A (eval slice env) (λi s₂=>s₂.TypeIs o T/\wpAny (model prog w) A (getItem o i) Q E s₂) E s₁) E s):wpAny (model prog w) A (eval (.Subscript value slice pos) env) Q E s:=by
 refine Subscript_ (Zq h (λo s₁ h₁=>Zq h₁ (λi s₂ h₂=>?_) λ_ _ x=>x) λ_ _ x=>x)
 obtain⟨hT,h₂⟩:=h₂
 unfold subscriptTail
 refine YD ?_
 rw[getitemInPython_of_ne hT.not_modules]
 refine YD (ZC hT hl ?_)
 have fin:wpAny (model prog w) A (subscripted slice false o i) (λr s₃=>wpAny (model prog w) A (letTemporaryGo value o r >>= λ_=>pure r) Q E s₃) E s₂:=by
  rw[hs o i]
  exact wpAny_operating (Zq h₂ (λr s₃ h₃=>YD (wpAny_letTemporaryGo (Y5 h₃))) λ_ _ x=>x)
 first
  |exact Y5 (YD fin)
  |exact YD (Y5 (YD fin))
  |exact YD fin
section
variable{X:Cx}{o i e value:Expr}{pos pos' tpos:Pos}{td ty tv:TE}
end
section
variable{X:Cx}{pos:Pos}
end
structure M1(X:Cx)(o:Expr)(m:Str)(apos:Pos)(e:Expr)(cpos:Pos):Prop where
 base:attributeBase o m X.env (eval o X.env)=eval o X.env
 few:((backTo cpos (starEach [e] X.env)).all (λx=>!x.1)&&(backToKw cpos (keywordEach [] X.env)).all (λx=>x.1.isSome)
  && decide (([e]:List Expr).length+([]:List Keyword).length+(if ([]:List Keyword).isEmpty then 0 else 1)<30))=true
 line:(apos.endLine==cpos.line)=true
 trees:backTo cpos (starEach [e] X.env)=[(false,eval e X.env)]
section
variable{X:Cx}{pins:List (Addr×Obj)}{σ:St}{H:Hp}{s:Shared}{a:Addr}{y d:V}{u r:Value}{o:Option V}{A:Around}{E:Value->Shared->Prop}
end
section
variable{X:Cx}{o e f:Expr}{apos cpos:Pos}{td ty tx:TE}
end
section
variable{X:Cx}{pins:List (Addr×Obj)}{σ:St}{H:Hp}{s:Shared}{a:Addr}{kvs:List (Key×V)}{A:Around}{E:Value->Shared->Prop}
end
section
variable{X:Cx}{pins:List (Addr×Obj)}{σ:St}{H:Hp}{s:Shared}{a:Addr}{y:V}{u:Value}{A:Around}{E:Value->Shared->Prop}
end
def RL:Lf->V
 |none=>.non
 |some k=>kV k
theorem qI{α β γ:Type}{F:α->β->Prop}{G:β->γ->Prop}:∀{xs:List α}{ys:List β}{zs:List γ},Paired F xs ys->Paired G ys zs->Paired (λa c=>∃b,F a b/\G b c) xs zs
 |_,_,_,.nil,.nil=>.nil
 |_,_,_,.cons a r,.cons b q=>.cons ⟨_,a,b⟩ (qI r q)
section
variable{P:Program}{w:World}{K:Type}[DecidableEq K]
structure qJ(F:W.Frag)(Z:mC P w K) where
 on:Hp->K->V->Prop
 ok:∀{X:Cx}{pins:List (Addr×Obj)}{σ:St}{H:Hp}{s:Shared}{k:K}{v:V}{u:Value},X.K=F->Inv X pins σ H s->RelV v u->on H k v->Z.is s.heap k u
 keep:∀{H H':Hp}{k:K}{v:V},(∀b xs,bU F H b xs->bU F H' b xs)->on H k v->on H' k v
def pN{F:W.Frag}{Z:mC P w K}(Y:qJ F Z)(H:Hp)(ks:List K)(b:Addr):Prop:=∃vs,bU F H b vs/\Paired (λk v=>Y.on H k v) ks vs
variable{F:W.Frag}{Z:mC P w K}{Y:qJ F Z}{H H':Hp}{ks:List K}{b:Addr}
theorem pN.is{X:Cx}{pins:List (Addr×Obj)}{σ:St}{s:Shared}(hF:X.K=F)(I:Inv X pins σ H s)(e:pN Y H ks b):TupIs Z s.heap ks b:=by
 obtain⟨vs,e,r⟩:=e
 obtain⟨its,rv,⟨o,h1,h2,n,h3⟩,_⟩:=I.tuple (by rw[hF];exact e)
 exact⟨o,its.toArray,n,h1,h2,h3,by simpa using Paired.BV (qI r rv) (λk u ⟨v,a,c⟩=>Y.ok hF I c a)⟩
theorem pN.keep(t:∀b xs,bU F H b xs->bU F H' b xs)(e:pN Y H ks b):pN Y H' ks b:=by
 obtain⟨vs,e,r⟩:=e
 exact⟨vs,t _ _ e,Paired.BV r λk v q=>Y.keep t q⟩
theorem pN.mono(s:∀a o,H a=some o->H' a=some o)(e:pN Y H ks b):pN Y H' ks b:=e.keep λb xs q=>by
 rcases q with (q|⟨o,q⟩)|q
 ·exact .inl (.inl (s _ _ q))
 ·exact .inl (.inr ⟨o,s _ _ q⟩)
 ·exact .inr q
end
def Eh(P:Program)(w:World)(F:W.Frag):qJ F (yP P w) where
 on:=λ_ k v=>v=RL k
 ok:=λ{X pins σ H s k v u} _ _ r e=>by
  subst e
  cases k with
  |none=>cases r;rfl
  |some k=>exact Ml (P:=P) (w:=w) r
 keep:=λ_ e=>e
section
variable{P:Program}{w:World}{K:Type}[DecidableEq K]
def OW{F:W.Frag}{Z:mC P w K}(Y:qJ F Z)(H:Hp):Lf⊕List K->V->Prop
 | .inl k,v=>v=RL k
 | .inr ks,v=>∃b,v=.ref b/\pN Y H ks b
def Ei{F:W.Frag}{Z:mC P w K}(Y:qJ F Z):qJ F (stepK Z) where
 on:=OW Y
 ok:=λ{X pins σ H s k v u} hF I r e=>by
  cases k with
  |inl k=>exact(Eh P w F).ok hF I r e
  |inr ks =>
   obtain⟨b,rfl,e⟩:=e
   cases r
   exact⟨b,O,e.is hF I⟩
 keep:=λ{H H' k v} t e=>by
  cases k with
  |inl k=>exact e
  |inr ks=>obtain⟨b,rfl,e⟩:=e;exact⟨b,rfl,e.keep t⟩
abbrev N3(K:Type):=List K×Addr×V
abbrev qT:List (N3 K)->List (List K×Addr×Value)->Prop:=Paired λp q=>p.1=q.1/\p.2.1=q.2.1/\RelV p.2.2 q.2.2
def Mm(Z:mC P w K)(hl:Z.fW+1<=8)(a:Addr)(kvs:List (N3 K))(h:Heap):Prop :=
 kvs.length<=sizeLine/\(a==sysModules)=false/\∃xs,qT kvs xs/\∃o es ep,h.get? a=some o/\o.ExactDict/\o.data=.dict es ep/\es.toList=xs.map (entryOfKey (tF Z hl))/\(xs.map (·.1)).Nodup
def dN(Z:mC P w K)(hl:Z.fW+1<=8)(a:Addr)(kvs:List (N3 K)):HO:=.ext (Mm Z hl a kvs)
structure Nd{F:W.Frag}{Z:mC P w K}(Y:qJ F Z)(hl:Z.fW+1<=8)(H:Hp)(a:Addr)(kvs:List (N3 K)):Prop where
 ob:H a=some (dN Z hl a kvs)
 keys:∀e∈kvs,pN Y H e.1 e.2.1
variable{F:W.Frag}{Z:mC P w K}{Y:qJ F Z}{hl:Z.fW+1<=8}{H H':Hp}{h:Heap}{a b:Addr}{kvs:List (N3 K)}
theorem Nd.mono(s:∀a o,H a=some o->H' a=some o)(d:Nd Y hl H a kvs):Nd Y hl H' a kvs:=⟨s _ _ d.ob,λe he=>(d.keys e he).mono s⟩
theorem Ej{xs:List (List K×Addr×Value)}:∀{kvs:List (N3 K)},qT kvs xs->∀q∈xs,∃p∈kvs,p.1=q.1/\p.2.1=q.2.1:=by
 intro kvs r
 induction r with
 |nil=>intro q hq;cases hq
 |cons a r ih =>
  intro q hq
  rcases Y7.mp hq with rfl|hq
  ·exact⟨_,Y6 ..,a.1,a.2.1⟩
  ·obtain⟨p,hp,e⟩:=ih q hq
   exact⟨p,YS _ hp,e⟩
theorem Nd.of{X:Cx}{K:Type}[DecidableEq K]{F:W.Frag}{Z:mC X.prog X.w K}{Y:qJ F Z}{hl:Z.fW+1<=8}{H:Hp}{a:Addr}{kvs:List (N3 K)}{pins:List (Addr×Obj)}{σ:St}{s:Shared}(hF:X.K=F)(I:Inv X pins σ H s)(d:Nd Y hl H a kvs):kvs.length<=sizeLine/\(a==sysModules)=false/\∃xs,qT kvs xs/\s.heap.DictOfH (tF Z hl) a xs:=by
 obtain⟨⟨z,y,xs,r,o,es,ep,h1,h2,h3,h4,h5⟩,_⟩:=(show dj X.prog X.w H s.heap a (dN Z hl a kvs) from I.hok a _ d.ob)
 refine⟨z,y,xs,r,o,es,ep,h1,h2,h3,h4,λx hx=>?_,h5⟩
 obtain⟨p,hp,e1,e2⟩:=Ej r x hx
 have:=(d.keys p hp).is hF I
 rw[e1,e2]at this
 exact this
theorem Ek{h':Heap}{xs:List (List K×Addr×Value)}(z:kvs.length<=sizeLine)(y:(a==sysModules)=false)(r:qT kvs xs)(dd:h'.DictOfH (tF Z hl) a xs):dj P w H h' a (dN Z hl a kvs):=by
 obtain⟨o,es,ep,h1,h2,h3,h4,_,h5⟩:=dd
 refine⟨⟨z,y,xs,r,o,es,ep,h1,h2,h3,h4,h5⟩,⟨o,h1⟩,λg1 g2 q k=>?_⟩
 obtain⟨z,y,xs,r,o,es,ep,h1,h2,h3,h4,h5⟩:=q
 exact⟨z,y,xs,r,o,es,ep,k _ h1,h2,h3,h4,h5⟩
def valN(kvs:List (N3 K))(k:List K):Option V:=(kvs.find? λx=>decide (x.1=k)).map (·.2.2)
theorem nQ{k:List K}:∀{kvs:List (N3 K)}{xs:List (List K×Addr×Value)},qT kvs xs->nI (valN kvs k) ((atKey xs k).map (·.2))
 |_,_,.nil=>trivial
 |p::kvs,q::xs,.cons a r=>by
  have ih:=nQ (k:=k) r
  unfold valN atKey at ih⊢
  rw[ZL,ZL,a.1]
  by_cases e:q.1=k
  ·rw[YJ e];exact a.2.2
  ·rw[YK e];exact ih
def putN(kvs:List (N3 K))(k:List K)(b:Addr)(v:V):List (N3 K):=if (valN kvs k).isSome=true then kvs.map (λx=>if x.1=k then (x.1,x.2.1,v) else x) else kvs++[(k,b,v)]
theorem yQ{k:List K}{v:V}(h:valN kvs k=none):putN kvs k b v=kvs++[(k,b,v)]:=by unfold putN;rw[h];rfl
theorem yR{k:List K}{v:V}{u:Value}(rv:RelV v u):∀{kvs:List (N3 K)}{xs:List (List K×Addr×Value)},qT kvs xs->qT (kvs.map (λx=>if x.1=k then (x.1,x.2.1,v) else x)) (xs.map (putAt k u))
 |_,_,.nil=>.nil
 |p::kvs,q::xs,.cons a r=>by
  refine .cons ?_ (yR rv r)
  unfold putAt
  by_cases e:q.1=k
  ·rw[YA e,show(λx:N3 K=>if x.1=k then (x.1,x.2.1,v) else x) p=(p.1,p.2.1,v) from YA (a.1.trans e)];exact⟨a.1,a.2.1,rv⟩
  ·rw[Yz e,show(λx:N3 K=>if x.1=k then (x.1,x.2.1,v) else x) p=p from Yz (λq=>e (a.1.symm.trans q))];exact a
theorem yS{kvs':List (N3 K)}{xs':List (List K×Addr×Value)}:∀{kvs:List (N3 K)}{xs:List (List K×Addr×Value)},qT kvs xs->qT kvs' xs'->qT (kvs++kvs') (xs++xs')
 |_,_,.nil,q=>q
 |_,_,.cons a r,q=>.cons a (yS r q)
theorem El{k:List K}{v:V}{u:Value}{xs:List (List K×Addr×Value)}(r:qT kvs xs)(rv:RelV v u):qT (putN kvs k b v) (storedH xs k b u):=by
 have q:=(nQ (k:=k) r).vR
 rw[Option.isSome_map]at q
 unfold putN storedH
 by_cases e:(valN kvs k).isSome=true
 ·rw[YA e,YA (by rw[←q];exact e)];exact yR rv r
 ·rw[Yz e,Yz (by rw[←q];exact e)];exact yS r (.cons ⟨rfl,rfl,rv⟩ .nil)
theorem Em{k:List K}{v:V}:(putN kvs k b v).length<=kvs.length+1:=by
 unfold putN
 split
 ·rw[YC];omega
 ·rw[YE];exact YB _
theorem tG(d:H a=some (dN Z hl a kvs)){o:HO}:∀c xs,bU F H c xs->bU F (upd H a o) c xs:=λc xs e=>by
 rcases e with (e|⟨ob,e⟩)|e
 ·exact .inl (.inl ((az (jg e d (λq=>nomatch q))).trans e))
 ·exact .inl (.inr ⟨ob,(az (jg e d (λq=>nomatch q))).trans e⟩)
 ·exact .inr e
theorem Nd.put{k:List K}{v:V}(d:Nd Y hl H a kvs)(e:pN Y H k b):Nd Y hl (upd H a (dN Z hl a (putN kvs k b v))) a (putN kvs k b v):=by
 refine⟨aj,λp hp=>?_⟩
 have t:=tG (F:=F) d.ob (o:=dN Z hl a (putN kvs k b v))
 unfold putN at hp
 split at hp
 ·obtain⟨x,hx,rfl⟩:=Zx.mp hp
  have:=(d.keys x hx).keep t
  split<;>exact this
 ·rcases Y3.mp hp with q|q
  ·exact(d.keys p q).keep t
  ·rw[YF.mp q];exact e.keep t
end
section
variable{X:Cx}{K:Type}[DecidableEq K]{F:W.Frag}{Z:mC X.prog X.w K}{Y:qJ F Z}{hl:Z.fW+1<=8}{pins:List (Addr×Obj)}{σ:St}{H:Hp}{s:Shared}{a b:Addr}{kvs:List (N3 K)}{k:List K}{v:V}{r:Value}{A:Around}{E:Value->Shared->Prop}
theorem Ci{Q:Value->Shared->Prop}(hu:A.units+1+(Z.fW+1)<cLine)(hF:X.K=F)(I:Inv X pins σ H s)(d:Nd Y hl H a kvs)(e:pN Y H k b)(g:valN kvs k=some v)(h:∀w' s',Inv X pins σ H s'->RelV v w'->Q w' s'):wpAny (model X.prog X.w) A (getItem (.ref a) (.ref b)) Q E s:=by
 obtain⟨z,y,xs,rel,dd⟩:=d.of hF I
 obtain⟨w',hw,rw'⟩:=nI.some_of (v:=v) (o:=(atKey xs k).map (·.2)) (by rw[←g];exact nQ rel)
 obtain⟨p,hp,hp2⟩:=Option.map_eq_some_iff.mp hw
 refine wpAny_getItem_heap (knd:=tF Z hl) hu (e.is hF I) dd hp ?_
 rw[hp2]
 exact h w' _ (I.tok _) rw'
theorem GV{Q:Value->Shared->Prop}(hu:A.units+1+(Z.fW+1)<cLine)(hF:X.K=F)(I:Inv X pins σ H s)(d:Nd Y hl H a kvs)(e:pN Y H k b)(h:∀s',Inv X pins σ H s'->Q (.bool (!(valN kvs k).isSome)) s'):wpAny (model X.prog X.w) A (compareOp .NotIn (.ref b) (.ref a)) Q E s:=by
 obtain⟨z,y,xs,rel,dd⟩:=d.of hF I
 refine wpAny_notIn_heap (knd:=tF Z hl) hu (e.is hF I) y dd ?_
 have q:=(nQ (k:=k) rel).vR
 rw[Option.isSome_map]at q
 rw[←q]
 exact h _ (I.tok _)
theorem Cj{Q:Unit->Shared->Prop}(hu:A.units+1+(Z.fW+1)<cLine)(hF:X.K=F)(I:Inv X pins σ H s)(d:Nd Y hl H a kvs)(e:pN Y H k b)(hz:kvs.length<sizeLine)(rv:RelV v r)(h:∀s',Inv X pins σ (upd H a (dN Z hl a (putN kvs k b v))) s'->Q () s'):wpAny (model X.prog X.w) A (setItem (.ref a) (.ref b) r) Q E s:=by
 obtain⟨z,y,xs,rel,dd⟩:=d.of hF I
 have hxz:xs.length<=sizeLine:=by rw[←ZO rel];exact z
 refine wpAny_setItem_heap (knd:=tF Z hl) (hsz:=hxz) hu (e.is hF I) dd λh' Mp hs=>h _ ?_
 have he:∃q,h'.get? a=some q:=let ⟨q,_,_,hq,_⟩:=Mp;⟨q,hq⟩
 have:=Em (kvs:=kvs) (k:=k) (b:=b) (v:=v)
 exact I.write (x:=a) (e:=a) (by rw[d.ob];exact True.intro) (.inl rfl) (λc q hc z=>(hs.2 c hc).trans z) he (Ek (by omega) y (El rel rv) Mp)
variable{o i value kx:Expr}{pos pos':Pos}{td ty tv:TE}
def Iq{P:Program}{w:World}{K:Type}[DecidableEq K]{F:W.Frag}{Z:mC P w K}(Y:qJ F Z)(hl:Z.fW+1<=8)(td ty:TE):TE:=λσ H Q=>td σ H λx H1=>ty σ H1 λy H2=>∃a kvs k b v,x=.ref a/\y=.ref b/\Nd Y hl H2 a kvs/\pN Y H2 k b/\valN kvs k=some v/\Q v H2
def Bx{P:Program}{w:World}{K:Type}[DecidableEq K]{F:W.Frag}{Z:mC P w K}(Y:qJ F Z)(hl:Z.fW+1<=8)(ty td:TE):TE:=λσ H Q=>ty σ H λy H1=>td σ H1 λx H2=>∃a kvs k b,x=.ref a/\y=.ref b/\Nd Y hl H2 a kvs/\pN Y H2 k b/\Q (.bl (!(valN kvs k).isSome)) H2
def Ir{P:Program}{w:World}{K:Type}[DecidableEq K]{F:W.Frag}{Z:mC P w K}(Y:qJ F Z)(hl:Z.fW+1<=8)(td ty tv:TE):TS:=λD σ H=>tv σ H λv H1=>td σ H1 λx H2=>ty σ H2 λy H3=>∃a kvs k b,x=.ref a/\y=.ref b/\Nd Y hl H3 a kvs/\pN Y H3 k b/\kvs.length<sizeLine/\D.nx σ (upd H3 a (dN Z hl a (putN kvs k b v)))
def Iu{P:Program}{w:World}{K:Type}[DecidableEq K]{F:W.Frag}{Z:mC P w K}(Y:qJ F Z)(hl:Z.fW+1<=8)(tk tv:TE):TE:=λσ H Q=>∀p,H p=none->tk σ (upd H p (dN Z hl p [])) λy H1=>tv σ H1 λv H2=>∃k b,y=.ref b/\H2 p=some (dN Z hl p [])/\pN Y H2 k b/\Q (.ref p) (upd H2 p (dN Z hl p [(k,b,v)]))
theorem GW(Y:qJ F Z)(hl:Z.fW+1<=8)(hF:X.K=F)(hu:X.A.units+1+(Z.fW+1)<cLine)(ho:PE X o td)(hi:PE X i ty)(hs:JA i):PE X (.Subscript o i pos) (Iq Y hl td ty):=by
 intro pins s σ H Q I h
 refine GU PySem.F.slot_dict_getitem.lookup hs (bV (ho pins s σ H _ I h) λu s1 ⟨x,H1,I1,rx,q1⟩=>bV (hi pins s1 σ H1 _ I1 q1) λiv s2 ⟨y,H2,I2,ry,a,kvs,k,b,v,ex,ey,d,e,g,q2⟩=>?_)
 subst ex ey
 obtain rfl:u=Value.ref a:=rx
 obtain rfl:iv=Value.ref b:=ry
 obtain⟨_,_,xs,_,dd⟩:=d.of hF I2
 exact⟨dd.typeIs,Ci hu hF I2 d e g λw' s3 I3 rw'=>⟨v,H2,I3,rw',q2⟩⟩
theorem Ck(Y:qJ F Z)(hl:Z.fW+1<=8)(hF:X.K=F)(hu:X.A.units+1+(Z.fW+1)<cLine)(hi:PE X i ty)(ho:PE X o td):PC X .NotIn i o (Bx Y hl ty td):=by
 intro pins s σ H Q I h
 refine bV (hi pins s σ H _ I h) λiv s1 ⟨y,H1,I1,ry,q1⟩=>bV (ho pins s1 σ H1 _ I1 q1) λu s2 ⟨x,H2,I2,rx,a,kvs,k,b,ex,ey,d,e,q2⟩=>?_
 subst ex ey
 obtain rfl:u=Value.ref a:=rx
 obtain rfl:iv=Value.ref b:=ry
 exact GV hu hF I2 d e λs3 I3=>⟨.bl (!(valN kvs k).isSome),H2,I3,rfl,q2⟩
theorem GX(Y:qJ F Z)(hl:Z.fW+1<=8)(hF:X.K=F)(hu:X.A.units+1+(Z.fW+1)<cLine)(ho:PE X o td)(hi:PE X i ty)(hv:PE X value tv)(hs:swapsWith value (some (.Subscript o i pos')) pos.line X.env=pure false):PS X (.Assign [.Subscript o i pos'] value pos) (Ir Y hl td ty tv):=by
 intro pins s σ H D I h
 refine wpAny_Assign_Subscript (bV (hv pins s σ H _ I h) λr s1 ⟨v,H1,I1,rv,q1⟩=>bV (ho pins s1 σ H1 _ I1 q1) λu s2 ⟨x,H2,I2,rx,q2⟩=>bV (hi pins s2 σ H2 _ I2 q2) λiv s3 ⟨y,H3,I3,ry,a,kvs,k,b,ex,ey,d,e,hz,q3⟩=>?_) hs
 subst ex ey
 obtain rfl:u=Value.ref a:=rx
 obtain rfl:iv=Value.ref b:=ry
 exact Cj hu hF I3 d e hz rv λs4 I4=>⟨σ,_,I4,q3⟩
theorem En(Y:qJ F Z)(hl:Z.fW+1<=8)(hF:X.K=F)(hu:X.A.units+(Z.fW+1)<cLine){tk:TE}(hk:PE X kx tk)(hv:PE X value tv):PE X (.Dict [some kx] [value] pos) (Iu Y hl tk tv):=by
 intro pins s σ H Q I q
 have hn:=I.hok.fresh (YB s.heap.objs.size)
 have y0:(s.heap.objs.size==sysModules)=false:=ZV.mpr (ZI (Za I.big))
 have I1:=I.laid (a:=s.heap.objs.size) (o:=dN Z hl s.heap.objs.size []) (h':=s.heap.push {cls:=.type "dict",data:=.dict #[]}) (t':=s.toks) (λ_ _ q=>YI _ q) (YB _) (Ek (xs:=[]) (Zd _) y0 .nil (Heap.DictOfH.new s.heap))
 refine wpAny_Dict_any rfl rfl (λz=>nomatch z) (by show 1<=15;decide) (pairTrees_cons_walk (bV (hk pins _ σ _ _ I1 (q _ hn)) λu s1 ⟨x,H1,T8,rx,q1⟩=>bV (hv pins s1 σ H1 _ T8 q1) λvu s2 ⟨v,H2,I2,rv,k,b,ex,e,ek,q2⟩=>pairTrees_nil_walk ?_))
 subst ex
 obtain rfl:u=Value.ref b:=rx
 have d0:Nd Y hl H2 s.heap.objs.size []:=⟨e,λx hx=>nomatch hx⟩
 obtain⟨z,y,xs,rel,dd⟩:=d0.of hF I2
 cases rel
 unfold storeAll
 refine wpAny_forIn_list _ (λrest _ s'=>(rest=[(Value.ref b,vu)]/\s'=s2)\/(rest=[]/\EP X pins σ Q (Value.ref s.heap.objs.size) s')) _ ?_ ?_ _ _ (.inl ⟨rfl,rfl⟩)
 ·rintro x rest u s' (⟨e1,rfl⟩|⟨e1,_⟩)
  ·cases e1
   refine YD (wpAny_dictSet_heap (knd:=tF Z hl) (hsz:=Zd _) hu (ek.is hF I2) dd λh' Mp hs=>Y5 (.inr ⟨rfl,.ref s.heap.objs.size,_,?_,rfl,q2⟩))
   have he:∃q,h'.get? s.heap.objs.size=some q:=let ⟨q,_,_,hq,_⟩:=Mp;⟨q,hq⟩
   exact I2.write (x:=s.heap.objs.size) (e:=s.heap.objs.size) (by rw[e];exact True.intro) (.inl rfl) (λc q hc z=>(hs.2 c hc).trans z) he (Ek (by show 1<=sizeLine;decide) y (.cons ⟨rfl,rfl,rv⟩ .nil) Mp)
  ·cases e1
 ·rintro u s' (⟨e1,_⟩|⟨_,q⟩)
  ·cases e1
  ·exact q
end
section
variable{X:Cx}{K:Type}[DecidableEq K]{F:W.Frag}{Z:mC X.prog X.w K}
def OX{P:Program}{w:World}{K:Type}[DecidableEq K]{F:W.Frag}{Z:mC P w K}(Y:qJ F Z):R2:=λx y H Q=>∃b b' ks ks',x=.ref b/\y=.ref b'/\pN Y H ks b/\pN Y H ks' b'/\Q (.bl (decide (ks=ks'))) H
theorem Eo(Y:qJ F Z)(hF:X.K=F)(hu:X.A.units+(Z.fW+1)<cLine):lT X (compareOp .Eq) (OX Y):=by
 intro pins s σ H x y v u Q I rx ry h
 obtain⟨b,b',ks,ks',rfl,rfl,e1,e2,q⟩:=h
 cases rx;cases ry
 obtain⟨o,items,n,h1,h2,h3,h4⟩:=e1.is hF I
 obtain⟨o',items',n',OT,h2',h3',Mi⟩:=e2.is hF I
 have l1:ks.length=items.size:=by rw[ZO h4,YX]
 have l2:ks'.length=items'.size:=by rw[ZO Mi,YX]
 refine SeqAt.eq_tupleAt (e:=λj=>decide (ks[j]?=ks'[j]?)) ⟨o,h1,h2,n,h3⟩ ⟨o',OT,h2',n',h3'⟩ (by omega) (λj j1 j2=>?_) ⟨.bl (decide (ks=ks')),H,I,?_,q⟩
 ·obtain⟨k,ek,hk⟩:=gQ h4 j items[j] (by simp[j1])
  obtain⟨k',OU,hk'⟩:=gQ Mi j items'[j] (by simp[j2])
  rw[ek,OU,show decide (some k=some k')=decide (k=k') by simp]
  exact Z.eq (by show X.A.units+1+Z.fW<cLine;omega) hk hk'
 ·show Value.bool _=Value.bool _
  rw[←l1,←l2,tE]
end
abbrev ZM(P:Program)(w:World):=stepK (yP P w)
abbrev YL(P:Program)(w:World)(F:W.Frag):=Eh P w F
abbrev YM(P:Program)(w:World)(F:W.Frag):qJ F (ZM P w):=Ei (Eh P w F)
theorem bG(P:Program)(w:World):(ZM P w).fW+1<=8:=by show 2<=8;decide
theorem hn0{A:Around}{P:Program}{w:World}(h:A.units+64<cLine):A.units+((yP P w).fW+1)<cLine:=by show A.units+1<cLine;omega
theorem hn1{A:Around}{P:Program}{w:World}(h:A.units+64<cLine):A.units+((ZM P w).fW+1)<cLine:=by show A.units+2<cLine;omega
theorem hn2{A:Around}{P:Program}{w:World}(h:A.units+64<cLine):A.units+1+((ZM P w).fW+1)<cLine:=by show A.units+1+2<cLine;omega
def yT(k s:Str):List Lf:=[some (.inr k),some (.inr s)]
def bS(m:(Str×Str)×Nat):List (Lf⊕List Lf):=[.inr (yT m.1.1 m.1.2),.inl (some (.inl m.2))]
theorem jj{k s k' s':Str}:yT k s=yT k' s'↔(k,s)=(k',s'):=by
 unfold yT
 constructor
 ·intro h;injection h with h1 h2;injection h2 with h2 _;injection h1 with h1;injection h2 with h2;injection h1 with h1;injection h2 with h2;rw[h1,h2]
 ·intro h;injection h with h1 h2;rw[h1,h2]
theorem pO{m m':(Str×Str)×Nat}:bS m=bS m'↔m=m':=by
 unfold bS
 constructor
 ·intro h
  injection h with h1 h2
  injection h2 with h2 _
  injection h1 with h1
  injection h2 with h2;injection h2 with h2;injection h2 with h2
  have e:=jj.mp h1
  obtain⟨⟨a,b⟩,n⟩:=m
  obtain⟨⟨a',b'⟩,n'⟩:=m'
  injection e with e1 e2
  have h2:n=n':=Int.ofNat.inj h2
  simp only at e1 e2
  rw[e1,e2,h2]
 ·rintro rfl;rfl
section
variable{P:Program}{w:World}{F:W.Frag}{H:Hp}
theorem nR{a:Addr}{k s:Str}(h:bU F H a [.str k,.str s]):pN (YL P w F) H (yT k s) a:=⟨_,h,.cons rfl (.cons rfl .nil)⟩
theorem iD{b s:Addr}{m:(Str×Str)×Nat}(h:bU F H b [.ref s,.int m.2])(h2:bU F H s [.str m.1.1,.str m.1.2]):pN (YM P w F) H (bS m) b:=⟨_,h,.cons ⟨s,rfl,nR h2⟩ (.cons rfl .nil)⟩
end
section
variable{X:Cx}{P:Program}{w:World}{K:Type}[DecidableEq K]{F:W.Frag}{Z:mC P w K}{o i value kx:Expr}{pos pos':Pos}{td ty tv tk:TE}
theorem yU(Y:qJ F Z)(hl:Z.fW+1<=8)(hP:X.prog=P)(hw:X.w=w)(hF:X.K=F)(hu:X.A.units+1+(Z.fW+1)<cLine)(ho:PE X o td)(hi:PE X i ty)(hs:JA i):PE X (.Subscript o i pos) (Iq Y hl td ty):=by
 subst hP hw;exact GW Y hl hF hu ho hi hs
theorem Au(Y:qJ F Z)(hl:Z.fW+1<=8)(hP:X.prog=P)(hw:X.w=w)(hF:X.K=F)(hu:X.A.units+1+(Z.fW+1)<cLine)(hi:PE X i ty)(ho:PE X o td):PC X .NotIn i o (Bx Y hl ty td):=by
 subst hP hw;exact Ck Y hl hF hu hi ho
theorem Ep(Y:qJ F Z)(hl:Z.fW+1<=8)(hP:X.prog=P)(hw:X.w=w)(hF:X.K=F)(hu:X.A.units+1+(Z.fW+1)<cLine)(ho:PE X o td)(hi:PE X i ty)(hv:PE X value tv)(hs:swapsWith value (some (.Subscript o i pos')) pos.line X.env=pure false):PS X (.Assign [.Subscript o i pos'] value pos) (Ir Y hl td ty tv):=by
 subst hP hw;exact GX Y hl hF hu ho hi hv hs
theorem Cn(Y:qJ F Z)(hl:Z.fW+1<=8)(hP:X.prog=P)(hw:X.w=w)(hF:X.K=F)(hu:X.A.units+(Z.fW+1)<cLine)(hk:PE X kx tk)(hv:PE X value tv):PE X (.Dict [some kx] [value] pos) (Iu Y hl tk tv):=by
 subst hP hw;exact En Y hl hF hu hk hv
end
section
variable{prog:Program}{w:World}{A:Around}{E:Value->Shared->Prop}{s:Shared}
theorem qU{R:Result->Shared->Prop}(hh:A.handled=none){I l:Addr}{items:List Value}(hne:l≠I)(hit:s.heap.IsRevIter I l ((items.toArray.size:Int)-1))(hl:s.heap.IsList l items.toArray)(hn:items.toArray.size<=sizeLine)(hR:∀h' tk acc' c',(∀b o,b≠I->s.heap.get? b=some o->h'.get? b=some o)->h'.get? s.heap.objs.size=some {cls:=.type "list",dict:=none,data:=.seq acc' c',slots:=#[]}->acc'.toList=items.reverse->R (.ok (.ret (.ref s.heap.objs.size))) {s with heap:=h',toks:=tk}):codeAny (model prog w) A (.builtin "proto.collect" ⟨[.ref I],[]⟩) R s:=by
 refine codeAny_builtin F.entry_proto_collect ?_;rw[Around.under_plainId F.plain_proto_collect _]
 show wpAny _ A.in1 (newList [] >>= λl=>again (.builtin "list.__iadd__" ⟨[l,.ref I],[]⟩)) _ _ s;refine YD (wpAny_newObj_type ?_)
 refine Y5 ⟨plainId_quiet F.plain_list_iadd _,codeAny_builtin F.entry_list_iadd ?_⟩
 rw[Around.under_plainId F.plain_list_iadd _]
 have hS:(s.heap.push {cls:=.type "list",data:=.seq #[]}).get? s.heap.objs.size=some {cls:=.type "list",data:=.seq #[]}:=Zi _ rfl
 have hlt:l<s.heap.objs.size:=by obtain⟨o,ho,_⟩:=hl;exact YQ ho
 show wpAny _ A.in1 (Builtin.List.listExtendWith (.ref s.heap.objs.size) (.ref I) (.ref s.heap.objs.size)) _ _ _
 exact Aq (R:=R) (s:={s with heap:=s.heap.push {cls:=.type "list",data:=.seq #[]}}) hh hne (hit.at λo e=>YI _ e) (hl.at λo e=>YI _ e) _ (Nat.ne_of_gt hlt) _ _ hS hn λh' tk acc' c' hk hS' hacc =>
  hR h' tk acc' c' (λb o hb e=>hk b o (Za (YQ e)) hb (YI _ e)) hS' (Cb hacc)
theorem yV{Q:List Value->Shared->Prop}(hh:A.handled=none){I l:Addr}{items:List Value}(hne:l≠I)(hit:s.heap.IsRevIter I l ((items.toArray.size:Int)-1))(hl:s.heap.IsList l items.toArray)(hn:items.toArray.size<=sizeLine)(hQ:∀h' tk,(∀b o,b≠I->s.heap.get? b=some o->h'.get? b=some o)->Q items.reverse {s with heap:=h',toks:=tk}):wpAny (model prog w) A (collect (.ref I)) Q E s:=by
 unfold collect
 refine YD (wpAny_runValue (qU hh hne hit hl hn λh' tk acc' c' hk hS' hacc=>?_))
 show wpAny _ A (load s.heap.objs.size >>= _) _ _ _
 refine YD (wpAny_load hS' (Y5 ?_))
 show Q acc'.toList _
 rw[hacc]
 exact hQ h' tk hk
theorem Er{x:Str}{t:Tok}{Q:Value->Shared->Prop}(hh:A.handled=none){I l:Addr}{items:List Value}{ys:List Str}(hne:l≠I)(hit:s.heap.IsRevIter I l ((items.toArray.size:Int)-1))(hl:s.heap.IsList l items.toArray)(hn:items.toArray.size<=sizeLine)(hi:StrsAre items.reverse ys)(hok:(ys.map (·.length)).sum+ys.length*x.length<=16777216)(hQ:∀h' t' k,(∀b o,b≠I->s.heap.get? b=some o->h'.get? b=some o)->Q (.str (Txt.join x ys) t') {s with heap:=h',toks:=k}):wpAny (model prog w) A (call (.builtin "str.join") [.str x t,.ref I]) Q E s:=by
 refine wpAny_call (codeAny_call_builtin F.slot_str_join.plain F.entry_str_join (F.slot_str_join.check _ _ _ _ _ _ _ _ (typeIs_str _ _ _) (F.args_str_join_2 _ _) ?_))
 rw[join_tree_other]
 refine YD (wpAny_typeOf hit.typeIs ?_)
 show wpAny _ A.in1 ((pyIter (.ref I)).tryCatch _ >>= λit=>collect it >>= λitems=>joinTail x items) _ _ s
 refine YD (wpAny_tryCatch (wpAny_pyIter_revIter hit ?_))
 refine YD (yV (A:=A.in1) hh hne hit hl hn λh' tk hk=>?_)
 obtain⟨lt,hv,ht⟩:=strsAre_values hi
 rw[hv]
 have ok:=joinOk_of hok
 subst ht
 unfold JoinOk at ok
 rw[Bool.not_eq_true']at ok
 have g:Gives (joinTail x (strValues lt)) (joinMade x lt):=by
  have g0:=gives_joinTail x lt ok
  cases lt with
  |nil=>exact g0
  |cons p r=>cases r with
   |nil=>exact g0
   |cons q r'=>exact g0
 exact g prog w A (wants Q E) _ (post_join lt ⟨joinFit_length ok,λt' k=>hQ h' t' k hk⟩)
end
section
variable{X:Cx}{e:Expr}
def yW(K:W.Frag)(tx:TE)(ta:TA):TE:=λσ H Q=>tx σ H λx H0=>∃z,x=.str z/\ta σ H0 λvs H1=>∃p,∃ys:List Str,vs=[.ref p]/\aX K H1 p (ys.map V.str)/\(ys.map (·.length)).sum+ys.length*z.length<=16777216/\Q (.str (Txt.join z ys.reverse)) H1
theorem tH:∀{its:List Value}{ys:List Str},Vals (ys.map V.str) its->StrsAre its ys
 |_,[],h=>by cases h;exact .nil
 |_,y::ys,h=>by cases h with|cons a b=>obtain⟨t,rfl⟩:=a;exact .cons _ _ (tH b)
theorem Av{o:Expr}{apos p2 pos2 cpos:Pos}{tx:TE}{ta:TA}(hc:X.calm=true)(OY:Gl X "reversed")(hm2:X.mg "reversed"=none)(hx:PE X o tx)(ha:PA X [e] ta)(hbase:attributeBase o "join" X.env (eval o X.env)=eval o X.env:=by rfl)(hfew:((backTo cpos (starEach [.Call (.Name "reversed" p2) [e] [] pos2] X.env)).all (λx=>!x.1)&&(backToKw cpos (keywordEach [] X.env)).all (λx=>x.1.isSome)
   && decide (([.Call (.Name "reversed" p2) [e] [] pos2]:List Expr).length+([]:List Keyword).length+(if ([]:List Keyword).isEmpty then 0 else 1)<30))=true:=by rfl)(hline:(apos.endLine==cpos.line)=true:=by rfl)(h1:starEach [.Call (.Name "reversed" p2) [e] [] pos2] X.env=[(false,eval (.Call (.Name "reversed" p2) [e] [] pos2) X.env)]:=by rfl)(h2:starEach [e] X.env=[(false,eval e X.env)]:=by rfl):PE X (.Call (.Attribute o "join" apos) [.Call (.Name "reversed" p2) [e] [] pos2] [] cpos) (yW X.K tx ta):=by
 intro pins s σ H Q I h
 refine wpAny_Call_method_late hbase hfew hline rfl (bV (hx pins s σ H _ I h) λv s1 ⟨x,H0,I0,r0,z,hz,q0⟩=>?_)
 subst hz
 obtain⟨t1,t2⟩:=DR I0 r0 (T:="str") rfl
 refine⟨"str","str.join",F.plainAttrs_str,F.slot_str_join,O,t1,t2,?_⟩
 rw[h1]
 refine Calls.callWith_builtin rfl (Calls.evalArgs_plain ?_)
 refine Calls.spliced_cons ?_
 refine wpAny_Call_Name_kw (pI I0 OY hm2 boot_reversed ?_ (by decide) (by decide))
 refine ZH (bV (ha pos2 pins s1 σ H0 _ I0 q0) λus s2 ⟨vs,H1,I1,r1,q1⟩=>?_) h2 rfl
 obtain⟨p,ys,rfl,hq,hok,q⟩:=q1
 obtain⟨u,rfl,ru⟩:=vals1 r1
 cases ru
 obtain⟨its,rv,pl,hz⟩:=I1.list hq
 have hlen:=rv.length
 refine call_reversed_list pl.isList ?_
 refine Calls.spliced_nil ?_
 have hnew:s2.heap.objs.size<=s2.heap.objs.size:=YB _
 have I2:Inv X pins σ H1 {s2 with heap:=s2.heap.push (revObj p ((its.toArray.size:Int)-1))}:=I1.kept (t':=s2.toks) λb o e=>YI _ e
 have hpl:p<s2.heap.objs.size:=by obtain⟨o,ho,_⟩:=pl.isList;exact YQ ho
 have f0:=I1.uT hnew (I1.hok.fresh hnew)
 obtain⟨t0,rfl⟩:=r0
 refine Er (s:={s2 with heap:=s2.heap.push (revObj p ((its.toArray.size:Int)-1))}) (items:=its) (I.ok.hd hc) (Za hpl) ⟨_,Zi _ rfl,rfl,rfl⟩ (pl.isList.at λo e=>YI _ e) (by rw[YH];omega) (ys:=ys.reverse) (tH (by rw[List.map_reverse];exact rv.reverse)) (by rw[List.map_reverse,List.sum_reverse,List.length_reverse];exact hok) λh' t' tk hk=>?_
 have I4:=I2.turned (t':=tk) (h':=h') (it:=s2.heap.objs.size) hk f0.1 f0.2.1 f0.2.2.2.1 f0.2.2.2.2.1 f0.2.2.2.2.2
 exact⟨.str _,_,I4,⟨t',O⟩,q⟩
theorem yX(K:W.Frag)(h:X.K=K){o:Expr}{apos p2 pos2 cpos:Pos}{tx:TE}{ta:TA}(hc:X.calm=true)(OY:Gl X "reversed")(hm2:X.mg "reversed"=none)(hx:PE X o tx)(ha:PA X [e] ta)(hbase:attributeBase o "join" X.env (eval o X.env)=eval o X.env:=by rfl)(hfew:((backTo cpos (starEach [.Call (.Name "reversed" p2) [e] [] pos2] X.env)).all (λx=>!x.1)&&(backToKw cpos (keywordEach [] X.env)).all (λx=>x.1.isSome)
  && decide (([.Call (.Name "reversed" p2) [e] [] pos2]:List Expr).length+([]:List Keyword).length+(if ([]:List Keyword).isEmpty then 0 else 1)<30))=true:=by rfl)(hline:(apos.endLine==cpos.line)=true:=by rfl)(h1:starEach [.Call (.Name "reversed" p2) [e] [] pos2] X.env=[(false,eval (.Call (.Name "reversed" p2) [e] [] pos2) X.env)]:=by rfl)(h2:starEach [e] X.env=[(false,eval e X.env)]:=by rfl):PE X (.Call (.Attribute o "join" apos) [.Call (.Name "reversed" p2) [e] [] pos2] [] cpos) (yW K tx ta):=by subst h;exact Av hc OY hm2 hx ha hbase hfew hline h1 h2
end
section
variable{prog:Program}{w:World}{A:Around}{E:Value->Shared->Prop}{s:Shared}{d it i ep:Nat}{od:Obj}{es:Array DictEntry}
end
section
variable{P:Program}{w:World}{K:Type}[DecidableEq K]
variable{Z:mC P w K}{hl:Z.fW+1<=8}
end
section
variable{X:Cx}{K:Type}[DecidableEq K]{F:W.Frag}{Z:mC X.prog X.w K}
end
section
variable{X:Cx}
end
section
variable{X:Cx}
def Mq:R2:=λx y H Q=>∃(z:Str)(k:Int),x=.str z/\y=.int k/\0<=k/\k<1000000/\z.length*k.toNat<=10000000/\z.length<=10000000/\Q (.str (lV z k.toNat)) H
theorem Es(z:Str):lV z 1=z:=by
 unfold lV
 show(⟨#[]++z.cps⟩:Str)=z
 rw[Array.empty_append]
theorem JB{z:Str}(h:z.length=0)(n:Nat):lV z n=z:=by
 have e:z.cps = #[]:=Array.eq_empty_of_size_eq_zero h
 have key:∀n:Nat,(List.replicate n (#[]:Array Nat)).foldl (· ++ ·) (#[]:Array Nat) = #[]:=λn=>by
  induction n with
  |zero=>rfl
  |succ n ih=>rw[List.replicate_succ,Zw,Array.append_empty];exact ih
 obtain⟨c⟩:=z
 have e:c = #[]:=e
 unfold lV
 show(⟨(List.replicate n c).foldl (· ++ ·) #[]⟩:Str)=⟨c⟩
 rw[e,key n]
theorem By:lT X (binaryOp .Mult) Mq:=by
 intro pins s σ H x y v u Q I rx ry h
 obtain⟨z,k,rfl,rfl,hk,hk2,hl,hz,q⟩:=h
 obtain⟨t,rfl⟩:=rx
 obtain⟨t',rfl⟩:=ry
 have tl:Builtin.Str.tooLong (z.length*k.toNat)=false:=by
  unfold Builtin.Str.tooLong
  have hsl:10000000<=sizeLine:=by decide
  simp
  omega
 refine P.mul_str (by simp;omega) (λ_ _=>?_) (λ_ _=>tl) ?_
 ·intro h
  have h3:(10000000:Int)<=(2 ^ 63-1) / k:=by
   rw[Int.le_ediv_iff_mul_le (by omega)]
   omega
  omega
 ·by_cases e1:k<1
  ·rw[YA e1]
   have:k=0:=by omega
   subst this
   exact⟨by decide,.str _,H,I.tok _,⟨_,O⟩,q⟩
  ·rw[Yz e1]
   cases e2:(k==1||z.length==0) with
   |true =>
    rw[YA rfl]
    have er:lV z k.toNat=z:=by
     rw[Bool.or_eq_true]at e2
     rcases e2 with e|e
     ·have:k=1:=by simpa using e
      subst this;exact Es z
     ·exact JB (by simpa using e) _
    rw[er]at q
    exact⟨.str _,H,I,⟨_,O⟩,q⟩
   |false =>
    rw[Yz (by decide)]
    exact⟨fits_reps tl,⟨.str _,H,I.tok _,⟨_,O⟩,q⟩⟩
end
open PySem
theorem RM{A B:Prop}{b:Bool}(hb:b=true)(h:A):if b=true then A else B:=by rw[YA hb];exact h
theorem RN{A B:Prop}{b:Bool}(hb:b=false)(h:B):if b=true then A else B:=by rw[Yz (by rw[hb];decide)];exact h
theorem K9{p A B:Prop}[Decidable p](hp:p)(h:A):if decide p=true then A else B:=RM (YJ hp) h
theorem jw{p A B:Prop}[Decidable p](hp:¬p)(h:B):if decide p=true then A else B:=RN (YK hp) h
theorem OZ{p A B:Prop}[Decidable p](hp:p)(h:B):if (!decide p)=true then A else B:=RN (by rw[YJ hp];rfl) h
theorem O0{p A B:Prop}[Decidable p](hp:¬p)(h:A):if (!decide p)=true then A else B:=RM (by rw[YK hp];rfl) h
theorem yY{A B:Prop}{b:Bool}(h1:b=true->A)(h2:b=false->B):if b=true then A else B:=by
 cases b with
 |true=>exact kC (h1 rfl)
 |false=>exact cU (h2 rfl)
theorem Mr{p A B:Prop}[Decidable p](h1:p->A)(h2:¬p->B):if decide p=true then A else B:=by
 by_cases h:p
 ·exact K9 h (h1 h)
 ·exact jw h (h2 h)
section
variable{prog:Program}{w:World}{A:Around}{E:Value->Shared->Prop}{s:Shared}
end
section
variable{X:Cx}{e:Expr}{te:TE}
end
section
variable{prog:Program}{w:World}{A:Around}{E:Value->Shared->Prop}{s:Shared}
end
def O1(h₀:Heap)(H:Hp)(h:Heap)(e:Addr)(vs:Array Value):Option Value->Prop
 |none=>vs[1]?=some .none/\vs[2]?=some .none
 |some v=>∃T oT ts,vs[1]?=some (.ref T)/\H T=none/\h₀.get? T=none/\T≠e/\h.get? T=some oT/\oT.data=.fields ts/\ts[3]?=some v/\vs[2]?=some .none
structure Exc(h₀:Heap)(H:Hp)(h:Heap)(e:Addr)(C:Value)(od:Option Addr)(fl:Option Value):Prop where
 fr:H e=none
 nw:h₀.get? e=none
 tr:∃oe vs,h.get? e=some oe/\oe.cls=C/\oe.dict=od/\oe.data=.fields vs/\O1 h₀ H h e vs fl
section
variable{M:Model}{A:Around}{E:Value->Shared->Prop}{s:Shared}{base:Heap}{env:Env}{outer:List Env}{L e:Addr}{Q:Unit->Shared->Prop}
end
section
variable{M:Model}{A:Around}{E:Value->Shared->Prop}{s:Shared}{base h₀:Heap}{H:Hp}{env:Env}{outer:List Env}{L e:Addr}{C:Value}{od:Option Addr}{Q:Unit->Shared->Prop}
end
section
variable{X:Cx}{pins:List (Addr×Obj)}{σ σ':St}{H H':Hp}{s s1:Shared}
end
section
variable{P:Program}{w:World}{K:W.Frag}{mg:Str->Option Value}{base:Heap}{N:List Str}{qual:Str}{scope:Scope}{f:Addr}{cd:Value}{A:Around}{outer:List Env}{s:Shared}{H:Hp}{E:XK}
end
theorem dj.ex{P:Program}{w:World}{H:Hp}{h:Heap}{a:Addr}{o:HO}(x:dj P w H h a o):∃u,h.get? a=some u:=by
 cases o with
 |lst xs=>obtain⟨_,_,_,_,e⟩:=x;exact⟨_,e⟩
 |tup xs=>obtain⟨_,_,_,ob,e,_⟩:=x;exact⟨_,e⟩
 |dK kvs=>obtain⟨_,_,_,_,o,_,_,e,_⟩:=x;exact⟨_,e⟩
 |dT kvs=>obtain⟨_,_,_,_,o,_,_,e,_⟩:=x;exact⟨_,e⟩
 |set S n=>obtain⟨o,_,_,_,e,_⟩:=x;exact⟨_,e⟩
 |ins C dx fs=>obtain⟨_,_,_,e,_⟩:=x;exact⟨_,e⟩
 |own y=>exact x
 |xd fs=>obtain⟨_,⟨_,_,_,e,_⟩,_⟩:=x;exact⟨_,e⟩
 |NB lo hi=>obtain⟨_,_,_,e⟩:=x;exact⟨_,e⟩
 |zZ ob u=>obtain⟨e,_⟩:=x;exact⟨_,e⟩
 |Ia ps=>exact⟨_,x⟩
 |met f y=>exact⟨_,x⟩
 |ext φ=>exact x.2.1
theorem qE.none{P:Program}{w:World}{H:Hp}{h:Heap}{a:Addr}(x:qE P w H h)(e:h.get? a=Option.none):H a=Option.none:=by
 cases q:H a with
 |none=>rfl
 |some u=>obtain⟨o,z⟩:=(x a u q).ex;rw[e]at z;cases z
abbrev GY:List Value:=[.type "ValueError",.type "Exception",.type "BaseException",.type "object"]
structure NK(K:W.Frag)(C N:Addr)(bm:List Value)(ini:Option Value):Prop where
 ob:∃nm q bs hdct sn sub ab col dd k0 k1 k2 k3 k5,K.lookup C=some (excClassObj nm q C N bs bm hdct sn sub ab col dd k0 k1 k2 k3 k5 "ValueError.__new__")
 ns:∃oc od es n sl,K.lookup N=some ⟨oc,od,.dict es n,sl⟩/\(es.toList.all λe=>match e.key with | .str _ _=>true|_=>false)=true
 ini:W.nsIn K N "__init__"=some ini
section
variable{K:W.Frag}{h:Heap}{C N:Addr}{bm:List Value}{ini:Option Value}
end
section
variable{P:Program}{w:World}{K:W.Frag}{mg:Str->Option Value}{base:Heap}{N0:List Str}{qual:Str}{scope:Scope}{f:Addr}{cd:Value}{A:Around}{outer:List Env}{s0:Shared}{H0:Hp}{E:XK}
end
section
abbrev Ua:=St->Hp->VK->XK->Prop
def XP(X:Cx)(pins:List (Addr×Obj))(σ:St)(Ex:XK)(e:Value)(s':Shared):Prop :=
 ∃ea C od H' s2 H2,e=.ref ea/\Inv X pins σ H2 s2/\Inv X pins σ H' s'/\(∀b o,s2.heap.get? b=some o->∃o',s'.heap.get? b=some o')/\Exc s2.heap H' s'.heap ea C od (some .none)/\Ex C od H'
variable{X:Cx}{k:Nat}{f C:Addr}{fd:FuncData}{ps:List Str}{sp:Sp}{uR:List V}{ds:List Value}{x m:Str}{p pos apos:Pos}{e o:Expr}{es:List Expr}{ta:TE}{t:TA}{te:Ua}
end
section
variable{X:Cx}{pins:List (Addr×Obj)}{σ σ':St}{H H':Hp}{s s1:Shared}
end
section
variable{M:Model}{A:Around}{E:Value->Shared->Prop}{K:W.Frag}{s:Shared}{C D N N' ea:Addr}{bm bm':List Value}{ini O2:Option Value}{Q:Bool->Shared->Prop}
end
section
variable{X:Cx}{pins:List (Addr×Obj)}{σ:St}{H:Hp}{s:Shared}{ea:Addr}
end
end L2
set_option maxHeartbeats 1000000
namespace L2
open PySem PySem.Spec PyProof.Rows PySem.Builtin PySem.Builtin.ObjectAttr
structure RO(K:W.Frag)(C:Addr)(f:Str):Prop where
 no:W.findIn K (.ref C) f=some none
 sa:W.findIn K (.ref C) "__setattr__"=some (some (.builtin "object.__setattr__"))
 ga:W.findIn K (.ref C) "__getattribute__"=some (some (.builtin "BaseException.__getattribute__"))
 gx:W.findIn K (.ref C) "__getattr__"=some none
 hd:W.hasDictIn K C=true
section
variable{P:Program}{w:World}{A:Around}{E:Value->Shared->Prop}{s:Shared}{K:W.Frag}{C N x:Addr}{bm:List Value}{ini:Option Value}{f:Str}{v:Value}{ox:Obj}{vs:Array Value}
theorem NK.cls(c:NK K C N bm ini)(h:W.hasDictIn K C=true):∃cd,W.clsIn K C=some cd/\cd.mro=.ref C::bm/\cd.hasDict=true:=by
 obtain⟨nm,q,bs,hdct,sn,sub,ab,col,dd,k0,k1,k2,k3,k5,lk⟩:=c.ob
 obtain⟨cd,hc,hd⟩:=W.any_some h
 refine⟨cd,hc,?_,hd⟩
 unfold W.clsIn at hc
 rw[lk]at hc
 cases hc
 rfl
end
section
variable{P:Program}{w:World}{A:Around}{E:Value->Shared->Prop}{K:W.Frag}{C N fI:Addr}{bm:List Value}{us:List Value}
end
section
variable{X:Cx}{pins:List (Addr×Obj)}{σ:St}{H:Hp}{s:Shared}{a:Addr}{φ:Heap->Prop}
end
section
variable{X:Cx}{e:Expr}{te:TE}{pos:Pos}
end
section
variable{X:Cx}{C N D fI:Addr}{bm:List Value}{ini:Option Value}{x f:Str}{np ap pos cpos pos':Pos}{e o value a1 a2:Expr}{es:List Expr}{t:TA}{ta tv te:TE}
structure Ub(K:W.Frag)(D:Addr):Prop where
 sp:W.specialIn K (.ref D) "__getattribute__"=some (some (.builtin "type.__getattribute__"))
 rd:W.readsIn K D (.type "type")=true
 fc:W.findCls K (.ref D) (.type "type") "__init__"=some (.val (.builtin "ValueError.__init__"))
end
section
variable{P:Program}{w:World}{K:W.Frag}{mg:Str->Option Value}{base:Heap}{N0:List Str}{qual:Str}{scope:Scope}{f:Addr}{cd:Value}{A:Around}{outer:List Env}{s0:Shared}{H0:Hp}{E:XK}
end
section
variable{P:Program}{w:World}{A:Around}{E:Value->Shared->Prop}{s:Shared}{K:W.Frag}{C N x:Addr}{bm:List Value}{ini:Option Value}{f:Str}{v:Value}{ox:Obj}{vs:Array Value}
end
section
variable{X:Cx}{K:W.Frag}
end
section
variable{X:Cx}{C N fI:Addr}{bm:List Value}{x:Str}{np cpos:Pos}{e:Expr}{es:List Expr}{t:TA}
end
section
variable{K:W.Frag}{C D N N':Addr}{bm bm':List Value}{ini O2:Option Value}{b:Bool}
end
open PySem PySem.Spec PyProof.Rows PySem.Builtin
section
variable{prog:Program}{w:World}{A:Around}{E:Value->Shared->Prop}{s:Shared}{α:Type}
end
end L2
set_option maxHeartbeats 4000000
namespace L2
open PySem PySem.Spec PyProof.Rows
section
variable{X:Cx}{tg:Expr}{ea:Addr}
end
section
variable{X:Cx}{elt tg iter:Expr}{ifs:List Expr}{scope:Scope}{pos:Pos}{N:List Str}{nv:Nat}{js:List Nat}{wi:TI}{g:TG}{tt:TT}{te:TE}
end
end L2
set_option maxHeartbeats 1000000
namespace L2
open PySem PySem.Spec PyProof.Rows
structure Ms(k:Nat)(A:Around):Prop where
 dp:A.depth+3*k+5<recursionLimit
 un:A.units+16*k+200<cLine
theorem eg.m{k:Nat}{A:Around}(r:eg k A):Ms k A:=⟨r.dp,r.un⟩
section
variable{P:Program}{w:World}{K:W.Frag}{mg:Str->Option Value}{base:Heap}
end
section
variable{X:Cx}{k:Nat}{f:Addr}{fd:FuncData}{ps:List Str}{sp:Sp}{x:Str}{p pos:Pos}{e:Expr}{es:List Expr}{t:TA}
end
end L2
set_option maxHeartbeats 4000000
namespace L2
open PySem PySem.Spec PyProof.Rows
section
variable{X:Cx}
end
end L2
set_option maxHeartbeats 1000000
namespace L2
open PySem PySem.Spec PyProof.Rows
section
variable{X:Cx}
end
section
variable{X:Cx}
end
end L2
set_option maxHeartbeats 4000000
namespace L2
open PySem PySem.Spec PyProof.Rows
section
variable{prog:Program}{w:World}{A:Around}{E:Value->Shared->Prop}{s:Shared}
end
section
variable{prog:Program}{w:World}{A:Around}{E:Value->Shared->Prop}{s:Shared}
end
section
variable{X:Cx}
end
section
variable{X:Cx}{K:Type}[DecidableEq K]{F:W.Frag}{Z:mC X.prog X.w K}
end
end L2
set_option synthInstance.maxSize 100000
set_option synthInstance.maxHeartbeats 400000
namespace L2
open PySem PySem.Spec PyProof.Rows
section
variable{X:Cx}{K:Type}[DecidableEq K]{F:W.Frag}{Z:mC X.prog X.w K}
end
abbrev ZP(P:Program)(w:World):=stepK (stepK (ZM P w))
abbrev YP(P:Program)(w:World)(F:W.Frag):qJ F (ZP P w):=Ei (Ei (YM P w F))
theorem hp1{A:Around}{P:Program}{w:World}(h:A.units+64<cLine):A.units+((ZP P w).fW+1)<cLine:=by show A.units+4<cLine;omega
theorem hp2{A:Around}{P:Program}{w:World}(h:A.units+64<cLine):A.units+1+((ZP P w).fW+1)<cLine:=by show A.units+1+4<cLine;omega
section
variable{P:Program}{w:World}{F:W.Frag}{H:Hp}
end
section
variable{prog:Program}{w:World}{A:Around}{E:Value->Shared->Prop}{s:Shared}{d ep:Nat}{od:Obj}{es:Array DictEntry}
end
section
variable{X:Cx}{P:Program}{w:World}{K:Type}[DecidableEq K]{F:W.Frag}{Z:mC P w K}
end
section
variable{prog:Program}{w:World}{A:Around}{E:Value->Shared->Prop}{s:Shared}{d ep:Nat}{od:Obj}{es:Array DictEntry}
end
section
variable{prog:Program}{w:World}{A:Around}{E:Value->Shared->Prop}{s:Shared}{d ep:Nat}{od:Obj}{es:Array DictEntry}
end
section
variable{X:Cx}{P:Program}{w:World}{K:Type}[DecidableEq K]{F:W.Frag}{Z:mC P w K}
end
section
variable{X:Cx}{K:Type}[DecidableEq K]{F:W.Frag}{Z:mC X.prog X.w K}
end
section
variable{X:Cx}{K:Type}[DecidableEq K]{F:W.Frag}{Z:mC X.prog X.w K}
end
theorem Et{scope:Scope}{env:Env}{x:Str}(h:scope.names.lookup x=some .free):(relabel scope env).names.lookup x=some .cell\/(relabel scope env).names.lookup x=some .free:=by
 have e:(relabel scope env).names.lookup x=(scope.names.lookup x).map λk=>if (k==NameKind.free&&env.scope.kind==.function&&env.kindOf x==some .cell) then NameKind.cell else k:=bR x scope.names
 rw[e,h,Zm]
 by_cases hc:(NameKind.free==NameKind.free&&env.scope.kind==.function&&env.kindOf x==some .cell)=true
 ·rw[YA hc];exact .inl rfl
 ·rw[Yz hc];exact .inr rfl
theorem JC{scope:Scope}{env:Env}{x:Str}(h:scope.names.lookup x=some .cell\/scope.names.lookup x=some .free):(relabel scope env).names.lookup x=some .cell\/(relabel scope env).names.lookup x=some .free:=by
 rcases h with h|h
 ·have e:(relabel scope env).names.lookup x=(scope.names.lookup x).map λk=>if (k==NameKind.free&&env.scope.kind==.function&&env.kindOf x==some .cell) then NameKind.cell else k:=bR x scope.names
  rw[e,h,Zm]
  exact .inl rfl
 ·exact Et h
structure gR(XN:List Str)(Ca:Scope)(N:List Str)(nv:Nat)(js:List Nat)(scope:Scope):Prop where
 kind:scope.kind=.function
 cell:∀y∈scope.names,y.2=.cell->scope.names.lookup y.1=some .cell
 loc:∀y∈scope.names,y.2=.local->scope.names.lookup y.1=some .local
 free:∀y∈scope.names,y.2=.free->scope.names.lookup y.1=some .free/\(Ca.names.lookup y.1=some .cell\/Ca.names.lookup y.1=some .free)
 nd:N.Nodup
 len:N.length=nv+js.length
 pl:js.map (λj=>XN[j]?)=(N.drop nv).map some
 fr:∀x∈N.drop nv,scope.names.lookup x=some .free
abbrev lW(scope:Scope)(C:Addr):List (Str×Addr):=cellsFrom (C+1) scope.names []
abbrev w5(X:Cx)(scope:Scope)(C:Addr):List (Str×Addr):=lW scope C++cP X.env scope.names []
theorem iW:∀(r:List (Str×NameKind))(n:Nat)(a b:List (Str×Addr)),cellsFrom n r (a++b)=cellsFrom n r a++b
 |[],_,_,_=>rfl
 | (x,k)::r,n,a,b=>by
  unfold cellsFrom
  split
  ·exact iW r (n+1) ((x,n)::a) b
  ·exact iW r n a b
theorem iX{x:Str}{c:Addr}:∀(r:List (Str×NameKind))(n:Nat)(a:List (Str×Addr)),(x,c)∈cellsFrom n r a->(x,NameKind.cell)∈r\/(x,c)∈a
 |[],_,_,h=>.inr h
 | (y,k)::r,n,a,h=>by
  unfold cellsFrom at h
  split at h
  ·rename_i hk
   have hk:k=.cell:=by simpa using hk
   rcases iX r (n+1) _ h with q|q
   ·exact .inl (YS _ q)
   ·rcases Y7.mp q with q|q
    ·cases q;rw[hk];exact .inl Y6
    ·exact .inr q
  ·rcases iX r n _ h with q|q
   ·exact .inl (YS _ q)
   ·exact .inr q
theorem gS{α:Type}{x:Str}:∀(a b:List (Str×α)),(a++b).lookup x=(match a.lookup x with|some c=>some c|none=>b.lookup x)
 |[],_=>rfl
 | (y,c)::a,b=>by
  rw[List.cons_append,Zr,Zr]
  cases x==y with
  |true=>rfl
  |false=>exact gS a b
abbrev iE(X:Cx)(N:List Str)(scope:Scope)(C:Addr)(s:Shared)(H:Hp)(fp:List Addr):Cx where
 prog:=X.prog
 w:=X.w
 K:=X.K
 mg:=X.mg
 base:=X.base
 A:=X.A
 N:=N
 s₀:=s
 H₀:=H
 env:=compEnvC scope (w5 X scope C) C X.env
 outer:=X.stack
 stack:=X.stack
 ex:=fp
 fn:=λx=>(lW scope C).lookup x != none
 calm:=X.calm
 pn:=[]
 xe:=λ_ _=>False
theorem GZ{M:Model}{A:Around}{E:Value->Shared->Prop}{s:Shared}{scope:Scope}{globals:Addr}{cl:List (Str×Addr)}{qual:Str}{env:Env}{Q:Env->Shared->Prop}(hQ:∀h1,(∀b o,s.heap.get? b=some o->h1.get? b=some o)->h1.Ns s.heap.objs.size (λ_=>none)->CellsOk h1 (s.heap.objs.size+1) (lW scope s.heap.objs.size)->Q (newEnv scope s.heap.objs.size globals (lW scope s.heap.objs.size++cl) qual none .none (some env) builtinsNs) {s with heap:=h1}):wpAny M A (newFunctionEnv scope globals cl [] qual none .none (some env)) Q E s:=by
 simp only[newFunctionEnv,Option.isSome_some,if_true]
 refine YD (wpAny_alloc ?_)
 refine YD (wpAny_layCells _ (λname kind cells=>by cases hkc:kind==NameKind.cell<;>simp[hkc]) _ _ _ _ ?_)
 have ok:=cellsFrom_ok scope.names (s.heap.push {cls:=.type "dict",data:=.dict #[]}) (s.heap.objs.size+1) [] ⟨λ_ _ hm=>(nomatch hm),List.Pairwise.nil⟩ (by rw[ZF];exact YB _)
 rw[ZF]at ok
 rw[show({s with heap:=s.heap.push {cls:=.type "dict",data:=.dict #[]}}:Shared).heap.objs.size=s.heap.objs.size+1 from ZF ..]
 have e:=iW scope.names (s.heap.objs.size+1) [] cl
 rw[ZN]at e
 rw[e,List.forIn_nil]
 refine YD (Y5 (Y5 ?_))
 exact hQ _ (λb o e=>pushCells_keeps _ _ b o (YI _ e)) ((Heap.Ns.new s.heap (.type "dict")).keeps (pushCells_keeps _ _)) ok
section
variable{X:Cx}{pins:List (Addr×Obj)}{σ:St}{H:Hp}{s:Shared}
theorem Iv{scope:Scope}{C:Addr}{h1:Heap}(hfr:∀n,(n,NameKind.free)∈scope.names->∃c,X.env.cells.lookup n=some c)(ck:CellsOk h1 (C+1) (lW scope C)){x:Str}{c:Addr}(e:(w5 X scope C).lookup x=some c):((x,c)∈lW scope C/\C<c/\h1.IsCell c none)\/(X.env.cells.lookup x=some c/\(cP X.env scope.names []).lookup x=some c):=by
 rw[gS]at e
 cases q:(lW scope C).lookup x with
 |some d =>
  rw[q]at e;cases e
  have hm:=Zf q
  exact .inl ⟨hm,(ck.empty _ _ hm).2,(ck.empty _ _ hm).1⟩
 |none =>
  rw[q]at e
  exact .inr ⟨gM scope.names [] hfr (λx c z=>by cases z) _ _ e,e⟩
theorem yZ{N:List Str}{nv:Nat}{js:List Nat}{scope:Scope}{fp:List Addr}{h1:Heap}{tk:Nat}(I:Inv X pins σ H s)(S:gR X.N X.env.scope N nv js scope)(hf:∀b∈fp,jq X pins H b)(hfl:∀b∈fp,b<s.heap.objs.size)(keep:∀b o,s.heap.get? b=some o->h1.get? b=some o)(ns:h1.Ns s.heap.objs.size λ_=>none)(ck:CellsOk h1 (s.heap.objs.size+1) (lW scope s.heap.objs.size)):Inv (iE X N scope s.heap.objs.size s H fp) [] (gP nv js σ) H {s with heap:=h1,toks:=tk}:=by
 have hfr:∀n,(n,NameKind.free)∈scope.names->∃c,X.env.cells.lookup n=some c:=λn hn=>I.ok.has n (S.free _ hn rfl).2
 have sub:∀x c,(cP X.env scope.names []).lookup x=some c->X.env.cells.lookup x=some c:=gM scope.names [] hfr (λx c z=>by cases z)
 have hlt:∀x c,X.env.cells.lookup x=some c->c<s.heap.objs.size:=λx c e=>by
  obtain⟨v,q⟩:=I.cell x c e
  exact q.lt
 have inv:∀x c,(w5 X scope s.heap.objs.size).lookup x=some c->((x,c)∈lW scope s.heap.objs.size/\s.heap.objs.size<c/\h1.IsCell c none)\/(X.env.cells.lookup x=some c/\(cP X.env scope.names []).lookup x=some c):=λx c e=>Iv hfr ck e
 have Jo:∀x,(relabel scope X.env).names.lookup x=some .cell\/(relabel scope X.env).names.lookup x=some .free->scope.names.lookup x=some .free\/scope.names.lookup x=some .cell:=by
  intro x hx
  have e:=bR (env:=X.env) x scope.names
  have hx':(relabel scope X.env).names.lookup x=_:=e
  rw[hx']at hx
  cases q:scope.names.lookup x with
  |none=>rw[q]at hx;rcases hx with hx|hx<;>cases hx
  |some k =>
   rw[q,Zm]at hx
   cases k<;>first|exact .inl rfl|exact .inr rfl | (exfalso;rcases hx with hx|hx<;>simp at hx)
 refine⟨⟨I.ok.mod,S.kind,I.ok.glob,I.ok.blt,YB _,λx y c e1 e2=>?_,λx hx=>?_,λx c z e=>?_,I.ok.hd,I.ok.frames,.inl rfl,λb hb=>?_,λb o e=>?_,?_,λb o e hb=>?_,λb hb z=>?_,I.stack,I.wL⟩,O,I.bare,Un.kept keep,⟨_,ns,λi x v e1 e2 e3=>?_⟩,λx c e=>?_,I.hok.fresh (YB _),λx c e=>?_,λp hp=>absurd (show p∈([]:List (Addr×Obj)) from hp) (by simp),I.hok.kept keep,?_⟩
 ·rcases inv x c e1 with ⟨m1,l1,_⟩|⟨o1,_⟩<;>rcases inv y c e2 with ⟨m2,l2,_⟩|⟨o2,_⟩
  ·exact name_of_addr ck.apart m1 m2
  ·exact absurd (hlt _ _ o2) (Nat.not_lt.mpr (Nat.le_of_lt l1))
  ·exact absurd (hlt _ _ o1) (Nat.not_lt.mpr (Nat.le_of_lt l2))
  ·exact I.ok.inj x y c o1 o2
 ·show ∃c,(w5 X scope s.heap.objs.size).lookup x=some c
  rw[gS]
  cases q:(lW scope s.heap.objs.size).lookup x with
  |some d=>exact⟨d,rfl⟩
  |none =>
   rcases Jo x hx with z|z
   ·exact fV _ _ _ (.inl (Zf z))
   ·have:=W.cellsFrom_some (x:=x) scope.names (s.heap.objs.size+1) [] (.inl z)
    rw[show cellsFrom (s.heap.objs.size+1) scope.names []=lW scope s.heap.objs.size from rfl,q]at this
    cases this
 ·have e:(w5 X scope s.heap.objs.size).lookup x=some c:=e
  rw[gS]at e
  cases q:(lW scope s.heap.objs.size).lookup x with
  |some d=>rw[q]at e;cases e;exact Nat.le_of_lt (ck.empty _ _ (Zf q)).2
  |none =>
   have z:((lW scope s.heap.objs.size).lookup x != none)=true:=z
   rw[q]at z;cases z
 ·obtain⟨f0,f1,f2,f3,f4,f5⟩:=hf b hb
  refine⟨Za (hfl b hb),λx c e=>?_⟩
  rcases inv x c e with ⟨m1,l1,_⟩|⟨o1,_⟩
  ·exact Nat.ne_of_gt (Nat.lt_trans (hfl b hb) l1)
  ·exact f4 x c o1
 ·exact I.bs b o e
 ·exact YU I.ok.Dg I.sz
 ·obtain⟨f0,f1,f2,f3,f4,f5⟩:=hf b hb
  rcases f3 with z|z
  ·exact I.ok.BX b o e z
  ·exact absurd (YZ (YQ e) (YU I.ok.Dg z)) (ZQ _)
 ·obtain⟨f0,f1,f2,f3,f4,f5⟩:=hf b hb
  rcases Y7.mp (I.pG b z) with q|q
  ·exact f1 q
  ·exact f2 q
 ·
  have hi:¬i<nv:=λhlt=>by
   unfold gP at e2
   rw[List.getElem?_append_left (by simpa using hlt),List.getElem?_replicate,YA hlt]at e2
   cases e2
  obtain⟨k,rfl⟩:∃k,i=nv+k:=⟨i-nv,by omega⟩
  unfold gP at e2
  rw[ZR (by simp),Zo,Nat.add_sub_cancel_left,Zk]at e2
  cases hj:js[k]? with
  |none=>rw[hj]at e2;cases e2
  |some j =>
   rw[hj,Zm]at e2
   have Br:(σ[j]?).getD none=some v:=Y0 e2
   have hσ:σ[j]?=some (some v):=by
    cases q:σ[j]? with
    |none=>rw[q]at Br;cases Br
    |some z=>rw[q]at Br;exact congrArg some Br
   have hd:(N.drop nv)[k]?=some x:=by rw[List.getElem?_drop];exact e1
   have hX:X.N[j]?=some x:=by
    have q:=congrArg (λl=>l[k]?) S.pl
    simp only[Zk,hj,hd,Zm]at q
    exact Y0 q
   have hfx:=S.fr x (YT hd)
   have kx:=(S.free _ (Zf hfx) rfl).2
   obtain⟨m,_,hl⟩:=I.loc
   obtain⟨u,r,l⟩:=hl j x v hX hσ (.inr kx)
   refine⟨u,r,?_⟩
   rcases l with ⟨k1,_⟩|⟨_,c,hc,hcell⟩
   ·exfalso
    have OD:X.env.scope.names.lookup x=some .local:=k1
    rcases kx with z|z<;>(rw[OD]at z;cases z)
   ·obtain⟨c',hc'⟩:=fV (env:=X.env) scope.names [] x (.inl (Zf hfx))
    have e:=sub _ _ hc'
    rw[hc]at e;cases e
    have hno:(lW scope s.heap.objs.size).lookup x=none:=by
     cases q:(lW scope s.heap.objs.size).lookup x with
     |none=>rfl
     |some d =>
      rcases iX _ _ _ (Zf q) with z|z
      ·have:=S.cell _ z rfl
       rw[hfx]at this;cases this
      ·cases z
    refine .inr ⟨?_,c,?_,hcell.keeps keep⟩
    rotate_left
    ·show(w5 X scope s.heap.objs.size).lookup x=some c
     rw[gS,hno];exact hc'
    have e:=bR (env:=X.env) x scope.names
    have e':(relabel scope X.env).names.lookup x=_:=e
    rw[hfx,Zm]at e'
    show(relabel scope X.env).names.lookup x=some .cell\/(relabel scope X.env).names.lookup x=some .free
    rw[e']
    split
    ·exact .inl rfl
    ·exact .inr rfl
 ·rcases inv x c e with ⟨_,_,q⟩|⟨o1,_⟩
  ·exact⟨none,q⟩
  ·obtain⟨v,q⟩:=I.cell x c o1
   exact⟨v,q.keeps keep⟩
 ·rcases inv x c e with ⟨_,q,_⟩|⟨o1,_⟩
  ·exact I.hok.fresh (Nat.le_of_lt q)
  ·exact I.kr x c o1
 ·unfold gP
  show _=N.length
  rw[YE,Zo,YC,S.len]
end
section
variable{X:Cx}{elt tg iter:Expr}{ifs:List Expr}{scope:Scope}{pos:Pos}{N:List Str}{nv:Nat}{js:List Nat}{wi:TI}{g:TG}{tt:TT}{te:TE}
theorem za{pins:List (Addr×Obj)}{σ:St}{H:Hp}{s:Shared}{Q:VK}{it:Addr}{fp:List Addr}{tn:Nat->Heap->Prop}{J:It}{E:Value->Shared->Prop}{RR:Value->Addr->Result->Shared->Prop}(hc:X.calm=true)(S:gR X.N X.env.scope N nv js scope)(hg:∀C s H fp,PG (iE X N scope C s H fp) tg g)(ht:∀C s H fp,wX (iE X N scope C s H fp) ifs tt)(he:∀C s H fp,PE (iE X N scope C s H fp) elt te)(I:Inv X pins σ H s)(T:Turn X.prog X.w X.K tg J fp it tn)(st:tn 0 s.heap)(hf:∀b∈fp,jq X pins H b)(hR:∀D,H D=none->sX J g tt te Q D (gP nv js σ) H)(hRR:∀D C H' s' m,Inv X pins σ H' s'->jq X pins H' C->s'.heap.Ns C m->Q (.ref D) H'->RR (.ref D) C (.ok .next) s'):wpAny (model X.prog X.w) X.A (newList []) (λacc s₃=>wpAny (model X.prog X.w) X.A (newFunctionEnv scope X.env.globals (cP X.env scope.names []) [] X.env.qual none .none (some X.env)) (λcenv s₄ =>
   codeAny (model X.prog X.w) X.A (.compStart (.ListComp elt [⟨tg,iter,ifs,0⟩] scope pos) 0 (.ref it) acc {cenv with scope:=relabel scope X.env}) (RR acc cenv.locals) s₄) E s₃) E s:=by
 refine wpAny_newObj_type (GZ λh₁ BA tu Eu=>?_)
 have I3:Inv X pins σ (upd H s.heap.objs.size (.lst [])) {s with heap:=s.heap.push {cls:=.type "list",data:=.seq ([]:List Value).toArray}}:=I.Jj (t':=s.toks) (its:=[]) .nil (Zd _)
 have hD:=I.fresh
 obtain⟨W,⟨m0,w0⟩,turn⟩:=hR s.heap.objs.size hD
 have ho:=T.obj 0 s.heap st
 have DY:∀b∈fp,b<s.heap.objs.size:=λb hb=>let ⟨o,e,_⟩:=ho b hb;YQ e
 have Am:∀b∈fp,jq X pins (upd H s.heap.objs.size (.lst [])) b:=λb hb=>⟨by rw[az (Za (DY b hb))];exact(hf b hb).1,(hf b hb).2⟩
 generalize L6:({s with heap:=s.heap.push {cls:=.type "list",data:=.seq ([]:List Value).toArray}}:Shared)=s3 at I3 tu BA Eu
 have e3:s3.heap=s.heap.push {cls:=.type "list",data:=.seq ([]:List Value).toArray}:=by rw[←L6]
 have hfl:∀b∈fp,b<s3.heap.objs.size:=λb hb=>by rw[e3,ZF];exact Nat.lt_succ_of_lt (DY b hb)
 have keep:=BA
 have J0:=yZ (tk:=s3.toks) I3 S Am hfl keep tu Eu
 have st1:tn 0 h₁:=T.keep 0 s.heap h₁ st λb hb o e=>keep b o (by rw[e3];exact YI _ e)
 generalize TY:upd H s.heap.objs.size (.lst [])=H3 at *
 generalize hY:iE X N scope s3.heap.objs.size s3 H3 fp=Y at *
 have inv:∀x c,(w5 X scope s3.heap.objs.size).lookup x=some c->((x,c)∈lW scope s3.heap.objs.size/\s3.heap.objs.size<c/\h₁.IsCell c none)\/(X.env.cells.lookup x=some c/\(cP X.env scope.names []).lookup x=some c):=λx c e=>Iv (λn hn=>I.ok.has n (S.free _ hn rfl).2) Eu e
 have sP:∀{H':Hp},(∀b∈fp,H' b=none)->∀b∈fp,jq Y [] H' b:=λ{H'} hn b hb=>by
  subst hY
  obtain⟨f0,f1,f2,f3,f4,f5⟩:=Am b hb
  refine⟨hn b hb,Za (hfl b hb),λz=>?_,.inl hb,λx c e=>?_,λp hp=>absurd (show p∈([]:List (Addr×Obj)) from hp) (by simp)⟩
  ·rcases Y7.mp (I3.pG b z) with q|q
   ·exact f1 q
   ·exact f2 q
  ·rcases inv x c e with ⟨_,q,_⟩|⟨o1,_⟩
   ·exact Nat.ne_of_gt (Nat.lt_trans (hfl b hb) q)
   ·exact f4 x c o1
 have eA:Y.A=X.A:=by subst hY;rfl
 have eP:Y.prog=X.prog:=by subst hY;rfl
 have eW:Y.w=X.w:=by subst hY;rfl
 have eK:Y.K=X.K:=by subst hY;rfl
 have eC:Y.calm=true:=by subst hY;exact hc
 have eE:Y.env=compEnvC scope (w5 X scope s3.heap.objs.size) s3.heap.objs.size X.env:=by subst hY;rfl
 have GK:Y.xe=λ_ _=>False:=by subst hY;rfl
 have OE:PG Y tg g:=by subst hY;exact hg _ _ _ _
 have OG:wX Y ifs tt:=by subst hY;exact ht _ _ _ _
 have OH:PE Y elt te:=by subst hY;exact he _ _ _ _
 have loop:codeAny (model X.prog X.w) X.A (.compLoop (.ListComp elt [⟨tg,iter,ifs,0⟩] scope pos) 0 (.ref it) (.ref s.heap.objs.size) (compEnvC scope (w5 X scope s3.heap.objs.size) s3.heap.objs.size X.env))
   (RR (.ref s.heap.objs.size) s3.heap.objs.size) {s3 with heap:=h₁,toks:=s3.toks}:=by
  refine sY (λn s'=>∃i ys τ H',Inv Y [] τ H' s'/\tn i s'.heap/\(∀b∈fp,H' b=none)/\W i n ys τ H') ?_ m0 ⟨0,[],_,H3,J0,st1,λb hb=>(Am b hb).1,w0⟩
  rintro n s4 ⟨i,ys,τ,H4,I4,L7,L8,w4⟩
  obtain⟨TZ,tr⟩:=turn i n ys τ H4 w4
  rcases tr with ⟨stop,qn⟩|⟨go,Nn,Ma,step⟩
  ·have d:=T.done Y eP eW eK eC i [] s4 τ H4 (λ_ _=>False) I4 (sP L8) L7 stop
   rw[eA]at d
   refine bV d λr s5 ⟨hr,I5⟩=>?_
   subst hr
   have u:Inv X pins σ H4 s5:=by
    subst hY
    exact I3.Ic (ch:=fp) I5.os I5.base I5.hok I5.bare λb hb=>⟨(Am b hb).2.2.2.1,(Am b hb).2.1,(Am b hb).2.2.2.2.1,(Am b hb).2.2.2.2.2⟩
   have hC:H4 s3.heap.objs.size=none:=by have z:=I5.free;rw[eE]at z;exact z
   obtain⟨m,hn,_⟩:=I5.loc
   rw[eE]at hn
   exact hRR _ _ H4 s5 m u (I3.uT (YB _) hC) hn qn
  ·have d:=T.item Y eP eW eK eC i [] s4 τ H4 (λ_ _=>False) I4 (sP L8) L7 go
   rw[eA]at d
   refine bV d λr s5 ⟨u,hr,h5⟩=>?_
   subst hr
   refine bV h5 λ_ s6 ⟨x,H6,I6,r6,y6,Jr,OI⟩=>?_
   have OJ:=I6.pinned (sP OI) (T.obj _ _ Jr)
   have q6:=OE _ s6 τ H6 x u _ OJ r6 (step x H6 y6)
   rw[eP,eW,eA,eE,GK]at q6
   refine bV q6 λ_ s7 ⟨σ7,H7,I7,q7⟩=>?_
   have q8:=OG _ s7 σ7 H7 _ I7 q7
   rw[eP,eW,eA,eE,GK]at q8
   refine bV q8 λok s8 ⟨H8,I8,q8⟩=>?_
   have again:∀{σ9:St}{H9:Hp}{s9:Shared}{zs:List V},Inv Y ([]++pJ fp s6.heap) σ9 H9 s9->(∃m',m'<n/\W (i+1) m' zs σ9 H9)->∃m,m<n/\∃i ys τ H',Inv Y [] τ H' s9/\tn i s9.heap/\(∀b∈fp,H' b=none)/\W i m ys τ H':=λ{σ9 H9 s9 zs} I9 n9=>by
    obtain⟨m',hm,w9⟩:=n9
    refine⟨m',hm,i+1,zs,σ9,H9,I9.kB,T.keep _ _ _ Jr λb hb o e=>(I9.pin (b,o) (Y4 _ (Y4 _ (fE hb e)))).1,λb hb=>?_,w9⟩
    obtain⟨o,e,d⟩:=T.obj _ _ Jr b hb
    exact(I9.pin (b,o) (Y4 _ (Y4 _ (fE hb e)))).2.1
   cases ok with
   |false =>
    rw[Yz YN]
    rw[Yz YN]at q8
    exact again I8 (Ma _ _ _ q8)
   |true =>
    rw[YA rfl]
    rw[YA rfl]at q8
    have q9:=OH _ s8 σ7 H8 _ I8 q8
    rw[eP,eW,eA,eE,GK]at q9
    refine bV q9 λy s9 ⟨yv,H9,I9,r9,K5,OL,q9⟩=>?_
    have ap:=bL (X:=Y) _ s9 σ7 H9 (.ref s.heap.objs.size) [yv] (.ref s.heap.objs.size) [y] (λ_ Js=>Nn (ys++[yv]) σ7 Js) I9 rfl (.cons r9 .nil) ⟨_,ys,yv,rfl,rfl,K5,OL,q9⟩
    rw[eP,eW,eA,GK]at ap
    exact bV ap λ_ Io ⟨_,Js,OM,_,ON⟩=>again OM (Ma _ _ _ ON)
 subst L6
 exact codeAny_compStart_list loop (T.self _ 0 _ _ _ st1 loop)
theorem Ew{i:Nat}{x:Str}{pos' spos:Pos}(hc:X.calm=true)(hN:X.N.Nodup)(hi':X.N[i]?=some x)(hx:X.env.scope.names.lookup x=some .local)(S:gR X.N X.env.scope N nv js scope)(hi:PI X tg iter wi)(hg:∀C s H fp,PG (iE X N scope C s H fp) tg g)(ht:∀C s H fp,wX (iE X N scope C s H fp) ifs tt)(he:∀C s H fp,PE (iE X N scope C s H fp) elt te)(hsw:swapsWith (.ListComp elt [⟨tg,iter,ifs,0⟩] scope pos) (some (.Name x pos')) spos.line X.env=pure true:=by rfl)(hs:∀x,foldedSetIterable iter X.env x=pure x:=by intro _;rfl):PS X (.Assign [.Name x pos'] (.ListComp elt [⟨tg,iter,ifs,0⟩] scope pos) spos) (Dz (DW wi g tt te nv js) (bA i)):=by
 intro pins s σ H D I h
 rw[exec_Assign_Name_used _ _ _ _ hsw]
 refine YD (wpAny_standAt (YD ?_))
 show wpAny _ X.A (do let _ ←comprehension (.ListComp elt [⟨tg,iter,ifs,0⟩] scope pos) scope X.env _ (newList []) false (eval iter X.env) (some (assign (.Name x pos') X.env))) _ _ s
 refine YD (Zq (wpAny_comprehension_free (use:=some (assign (.Name x pos') X.env)) (Q:=λ_ s'=>SP X pins D .next s') rfl hs (iU λn hn=>I.ok.has n (S.free _ hn rfl).2) S.kind S.loc
  (bV (hi pins s σ H _ I h) λv s1 h1=>bV h1 λitv s2 h2=>?_)) (λ_ s' hq=>Y5 (Y5 hq)) λ_ _ e=>e)
 obtain⟨it,fp,tn,J,H2,e,I2,T,st2,f2,hR⟩:=h2
 subst e
 refine za (RR:=λacc C=>compPost (model X.prog X.w) X.A X.xe (some (assign (.Name x pos') X.env)) (λ_ s'=>SP X pins D .next s') acc C) hc S hg ht he I2 T st2 f2 hR ?_
 intro Dl C H' s' m I' fC hn q
 show wpAny _ X.A (assign (.Name x pos') X.env (.ref Dl)) _ _ _
 refine wpAny_assign_Name (pH I' hN hi' (.inl hx) (v:=.ref Dl) rfl (λs2 I3 ch=>?_) (.inr hx))
 obtain⟨a,sb,ha⟩:=ch
 have OO:C≠a:=by
  rcases ha with rfl|ha
  ·exact fC.2.1
  ·exact(fC.2.2.2.2.1 x a ha).symm
 refine⟨m,hn.sameBut sb OO,λh' sb'=>⟨_,H',?_,q⟩⟩
 exact I3.turned (t':=s2.toks) (λb o hb e=>(sb'.2 b hb).trans e) fC.1 fC.2.1 fC.2.2.2.1 fC.2.2.2.2.1 fC.2.2.2.2.2
end
theorem O3{XN:List Str}{Ca:Scope}{N:List Str}{nv:Nat}{js:List Nat}{scope:Scope}(kind:scope.kind=.function:=by rfl)(cell:∀y∈scope.names,y.2=.cell->scope.names.lookup y.1=some .cell:=by decide +kernel)(loc:∀y∈scope.names,y.2=.local->scope.names.lookup y.1=some .local:=by decide +kernel)(free:∀y∈scope.names,y.2=.free->scope.names.lookup y.1=some .free/\(Ca.names.lookup y.1=some .cell\/Ca.names.lookup y.1=some .free):=by decide +kernel)(nd:N.Nodup:=by decide +kernel)(len:N.length=nv+js.length:=by rfl)(pl:js.map (λj=>XN[j]?)=(N.drop nv).map some:=by rfl)(fr:∀x∈N.drop nv,scope.names.lookup x=some .free:=by decide +kernel):gR XN Ca N nv js scope:=⟨kind,cell,loc,free,nd,len,pl,fr⟩
theorem Ga{x:Str}:[x].Nodup:=.cons (λy hy=>nomatch hy) .nil
section
variable{X:Cx}
theorem m6(i:Nat){x:Str}{pos:Pos}(hN:X.N.Nodup)(hi:X.N[i]?=some x:=by rfl)(hx:Loc X.env.scope x:=by first|exact .inl rfl|exact .inr rfl)(hf:X.fn x=true\/X.env.scope.names.lookup x=some .local:=by first|exact .inl rfl|exact .inr rfl|assumption):PG X (.Name x pos) (bA i):=Gq hN hi hx hf
theorem d7(i:Nat){x:Str}{e:Expr}{te:TE}{pos pos':Pos}(hN:X.N.Nodup)(he:PE X e te)(hi:X.N[i]?=some x:=by rfl)(hx:Loc X.env.scope x:=by first|exact .inl rfl|exact .inr rfl)(hs:swapsWith e (some (.Name x pos')) pos.line X.env=pure false:=by rfl)(hf:X.fn x=true\/X.env.scope.names.lookup x=some .local:=by first|exact .inl rfl|exact .inr rfl|assumption):PS X (.Assign [.Name x pos'] e pos) (Dz te (bA i)):=IY hN hi hx he hs hf
theorem Dj{XN:List Str}{Ca:Scope}{N:List Str}{nv:Nat}{js:List Nat}{scope:Scope}(kind:scope.kind=.function:=by rfl)(cell:∀y∈scope.names,y.2≠.cell:=by decide +kernel)(loc:∀y∈scope.names,y.2=.local->scope.names.lookup y.1=some .local:=by decide +kernel)(free:∀y∈scope.names,y.2=.free->(Ca.names.lookup y.1=some .cell\/Ca.names.lookup y.1=some .free):=by decide +kernel)(nd:N.Nodup:=by decide +kernel)(len:N.length=nv+js.length:=by rfl)(pl:js.map (λj=>XN[j]?)=(N.drop nv).map some:=by rfl)(fr:∀x∈N.drop nv,scope.names.lookup x=some .free:=by decide +kernel):bq XN Ca N nv js scope:=⟨kind,cell,loc,free,nd,len,pl,fr⟩
theorem kq{id:String}{r:List V->Hp->VK->Prop}{x:Str}{e:Expr}{es:List Expr}{t:TA}{p pos:Pos}(hc:fz X (.builtin id) r)(hm:X.mg x=none)(ha:PA X (e::es) t)(hg:Gl X x:=by rfl)(hv:bootBuiltins x=some (.builtin id):=by decide +kernel)(hn:x ≠ "__name__":=by decide)(hdb:(x==("__debug__":Str))=false:=by decide)(he:starEach (e::es) X.env=(false,eval e X.env)::starEach es X.env:=by rfl)(hpl:(backTo pos (starEach es X.env)).any (·.1)=false:=by rfl):PE X (.Call (.Name x p) (e::es) [] pos) (NI r t):=DN hc hg hm hv ha hn hdb he hpl
theorem O4{T:String}{r:List V->Hp->VK->Prop}{x:Str}{e:Expr}{es:List Expr}{t:TA}{p pos:Pos}(hc:fz X (.type T) r)(hm:X.mg x=none)(ha:PA X (e::es) t)(hg:Gl X x:=by rfl)(hv:bootBuiltins x=some (.type T):=by decide +kernel)(hn:x ≠ "__name__":=by decide)(hdb:(x==("__debug__":Str))=false:=by decide)(he:starEach (e::es) X.env=(false,eval e X.env)::starEach es X.env:=by rfl)(hpl:(backTo pos (starEach es X.env)).any (·.1)=false:=by rfl):PE X (.Call (.Name x p) (e::es) [] pos) (NI r t):=B6 hc hg hm hv ha hn hdb he hpl
theorem JD(n:String){x:Str}{pos:Pos}(hm:X.mg x=none)(hg:Gl X x:=by rfl)(hv:bootBuiltins x=some (.type n):=by decide +kernel)(hn:x ≠ "__name__":=by decide)(hd:(x==("__debug__":Str))=false:=by decide):PE X (.Name x pos) (tC (.ty n)):=Ju n hg hm hv hn hd
theorem jS{k kk:Nat}{f:Addr}{fd:FuncData}{ps:List Str}{sp:Sp}{x:Str}{e:Expr}{es:List Expr}{t:TA}{p pos:Pos}(F:bD X.prog X.w X.K X.mg X.base fT k f fd ps sp)(hr:eg kk X.A)(hm:X.mg x=some (.ref f))(hk:W.keepIn X.K (.ref f)=true)(hb:Binds X.K fd ps [])(ha:PA X (e::es) t)(hkk:k<=kk:=by decide)(hg:Gl X x:=by rfl)(hdb:(x==("__debug__":Str))=false:=by decide)(he:starEach (e::es) X.env=(false,eval e X.env)::starEach es X.env:=by rfl)(hpl:(backTo pos (starEach es X.env)).any (·.1)=false:=by rfl):PE X (.Call (.Name x p) (e::es) [] pos) (DL sp [] E0 t):=Bo F (hr.mono hkk) hg hm hk hb .nil gK ha hdb he hpl
theorem nG(K:W.Frag){a b:Expr}{ta tb:TE}{pos:Pos}(ha:PE X a ta)(hb:PE X b tb)(hs:wR b:=by exact λ_ _=>rfl)(h:X.K=K:=by rfl):PE X (.Subscript a b pos) (FW (Jg K) ta tb):=sU (GO K h) ha hb hs
theorem qK(K:W.Frag){a b:Expr}{ta tb:TE}{pos:Pos}(ha:PE X a ta)(hb:PE X b tb)(hs:wR b:=by exact λ_ _=>rfl)(h:X.K=K:=by rfl):PE X (.Subscript a b pos) (FW (Jf K) ta tb):=sU (D4 K h) ha hb hs
theorem eH{op:CmpOp}{r:R2}{a b:Expr}{ta tb:TE}{pos:Pos}(ho:lT X (compareOp op) r)(ha:PE X a ta)(hb:PE X b tb)(h:op≠.In:=by decide)(h2:op≠.NotIn:=by decide):PT X (.Compare a [op] [b] pos) (Ik (FW r ta tb)):=c7 ho ha hb (DG b h h2)
theorem Gb{op:CmpOp}{r:R2}{a b:Expr}{ta tb:TE}{pos:Pos}(ho:lT X (compareOp op) r)(ha:PE X a ta)(hb:PE X b tb)(h:op≠.In:=by decide)(h2:op≠.NotIn:=by decide):PE X (.Compare a [op] [b] pos) (FW r ta tb):=Bl ho ha hb (DG b h h2)
end
abbrev FO(n q:Str)(s:Stmt)(d oc:Value)(od:Option Addr)(kV dc pm:Value)(an:Option Addr)(cd ct:Value)(sl:Array (Option Value)):Option Obj:=some ⟨oc,od,.func (W.fnOf n q (bZ s) (bN s) (aq s) d kV dc pm an cd ct),sl⟩
abbrev FN(n q:Str)(s:Stmt)(d kV dc pm:Value)(an:Option Addr)(cd ct:Value):FuncData:=W.fnOf n q (bZ s) (bN s) (aq s) d kV dc pm an cd ct
abbrev RF(a:Addr):Option (Option Value):=some (some (.ref a))
theorem fu.m7{K:W.Frag}{x qual:Str}{st:Stmt}{f:Addr}{fd:FuncData}{ps:List Str}(F:fu K x qual st f fd)(hp:ps.length=1:=by rfl)(h:∀(kV doc pm:Value)(an:Option Addr)(cdv ct a0:Value),bindArgs (W.fnOf x qual (bZ st) (bN st) (aq st) .none kV doc pm an cdv ct) ⟨[a0],[]⟩=pure (ps.zip [a0]):=by intros;rfl):Binds K fd ps [] :=
 F.binds λkV doc pm an cdv ct us hl=>by
  rw[hp]at hl
  match us,hl with
  |[a0],_=>exact h kV doc pm an cdv ct a0
theorem fu.nS{K:W.Frag}{x qual:Str}{st:Stmt}{f:Addr}{fd:FuncData}{ps:List Str}(F:fu K x qual st f fd)(hp:ps.length=2:=by rfl)(h:∀(kV doc pm:Value)(an:Option Addr)(cdv ct a0 a1:Value),bindArgs (W.fnOf x qual (bZ st) (bN st) (aq st) .none kV doc pm an cdv ct) ⟨[a0,a1],[]⟩=pure (ps.zip [a0,a1]):=by intros;rfl):Binds K fd ps [] :=
 F.binds λkV doc pm an cdv ct us hl=>by
  rw[hp]at hl
  match us,hl with
  |[a0,a1],_=>exact h kV doc pm an cdv ct a0 a1
theorem fu.pP{K:W.Frag}{x qual:Str}{st:Stmt}{f:Addr}{fd:FuncData}{ps:List Str}(F:fu K x qual st f fd)(hp:ps.length=3:=by rfl)(h:∀(kV doc pm:Value)(an:Option Addr)(cdv ct a0 a1 a2:Value),bindArgs (W.fnOf x qual (bZ st) (bN st) (aq st) .none kV doc pm an cdv ct) ⟨[a0,a1,a2],[]⟩=pure (ps.zip [a0,a1,a2]):=by intros;rfl):Binds K fd ps [] :=
 F.binds λkV doc pm an cdv ct us hl=>by
  rw[hp]at hl
  match us,hl with
  |[a0,a1,a2],_=>exact h kV doc pm an cdv ct a0 a1 a2
theorem fu.O5{K:W.Frag}{x qual:Str}{st:Stmt}{f:Addr}{fd:FuncData}{ps:List Str}(F:fu K x qual st f fd)(hp:ps.length=4:=by rfl)(h:∀(kV doc pm:Value)(an:Option Addr)(cdv ct a0 a1 a2 a3:Value),bindArgs (W.fnOf x qual (bZ st) (bN st) (aq st) .none kV doc pm an cdv ct) ⟨[a0,a1,a2,a3],[]⟩=pure (ps.zip [a0,a1,a2,a3]):=by intros;rfl):Binds K fd ps [] :=
 F.binds λkV doc pm an cdv ct us hl=>by
  rw[hp]at hl
  match us,hl with
  |[a0,a1,a2,a3],_=>exact h kV doc pm an cdv ct a0 a1 a2 a3
def FE(K:W.Frag)(x q:Str)(st:Stmt)(f:Addr):Prop:=∃fd,fu K x q st f fd
structure FQ(K:W.Frag)(x:Str)(st:Stmt)(f:Addr):Prop where
 a:W.nsIn K mainGlobals x=RF f
 e:FE K x x st f
structure FV(K:W.Frag)(C:Addr)(x q:Str)(st:Stmt)(f:Addr):Prop where
 a:W.findIn K (.ref C) x=RF f
 i:W.isFn K (.ref f)=true
 e:FE K x q st f
theorem FE.of{K:W.Frag}{x q:Str}{st:Stmt}{f:Addr}{oc:Value}{od an:Option Addr}{sl:Array (Option Value)}{kV dc pm cd ct:Value}(l:K.lookup f=FO x q st .none oc od kV dc pm an cd ct sl)(c:W.codeIn K cd q=true)(k:W.keepIn K (.ref f)=true):FE K x q st f:=⟨_,DV l c k⟩
theorem FQ.of{K:W.Frag}{x:Str}{st:Stmt}{f:Addr}{oc:Value}{od an:Option Addr}{sl:Array (Option Value)}{kV dc pm cd ct:Value}(a:W.nsIn K mainGlobals x=RF f)(l:K.lookup f=FO x x st .none oc od kV dc pm an cd ct sl)(c:W.codeIn K cd x=true)(k:W.keepIn K (.ref f)=true):FQ K x st f:=⟨a,.of l c k⟩
theorem FV.of{K:W.Frag}{C:Addr}{x q:Str}{st:Stmt}{f:Addr}{oc:Value}{od an:Option Addr}{sl:Array (Option Value)}{kV dc pm cd ct:Value}(a:W.findIn K (.ref C) x=RF f)(i:W.isFn K (.ref f)=true)(l:K.lookup f=FO x q st .none oc od kV dc pm an cd ct sl)(c:W.codeIn K cd q=true)(k:W.keepIn K (.ref f)=true):FV K C x q st f:=⟨a,i,.of l c k⟩
end L2
namespace My
open PySem L2
def top(i:Nat):Stmt:=PySem.Challenge.pw_dialecthall_k49_large_tables.main.body.getD i (.Pass ⟨0,0,0,0⟩)
abbrev gT:Stmt:=top 10
abbrev cQ:Stmt:=top 28
abbrev aY:Stmt:=inClass (top 29) 0
abbrev gU:Stmt:=inClass (top 29) 1
abbrev jx:Stmt:=top 30
abbrev f6:Stmt:=inClass (top 38) 0
abbrev e7:Stmt:=inClass (top 40) 0
abbrev Aw:Stmt:=top 16
abbrev e9:Stmt:=inClass (top 29) 2
abbrev ff:Stmt:=inClass (top 45) 0
abbrev fX:Stmt:=inClass (top 4) 0
abbrev c9:Stmt:=top 11
abbrev pQ:Stmt:=top 12
abbrev nT:Stmt:=top 13
abbrev fh:Stmt:=top 14
abbrev gW:Stmt:=top 15
abbrev pR:Stmt:=top 19
abbrev d8:Stmt:=top 23
abbrev iY:Stmt:=top 24
abbrev kF:Stmt:=top 25
abbrev gX:Stmt:=top 26
abbrev dU:Stmt:=top 32
abbrev f7:Stmt:=top 33
abbrev iZ:Stmt:=top 34
abbrev i0:Stmt:=top 35
abbrev f9:Stmt:=top 36
abbrev jy:Stmt:=top 37
abbrev kG:Stmt:=inClass (top 38) 1
abbrev fJ:Stmt:=inClass (top 38) 2
abbrev dB:Stmt:=inClass (top 40) 1
abbrev cZ:Stmt:=inClass (top 40) 2
abbrev dD:Stmt:=inClass (top 45) 1
abbrev fK:Stmt:=inClass (top 45) 2
abbrev dF:Stmt:=top 42
abbrev pS:Stmt:=top 43
abbrev pT:Stmt:=top 46
abbrev m8:Stmt:=top 47
abbrev gY:Stmt:=top 49
abbrev jz:Stmt:=top 50
abbrev gC:Stmt:=top 51
abbrev i7:Stmt:=top 52
abbrev kH:Stmt:=top 53
abbrev jA:Stmt:=top 54
abbrev gD:Stmt:=top 55
abbrev mD:Stmt:=top 56
theorem au{H:Hp}{l:Addr}{o:HO}(h:H l=none):aF H (upd H l o):=λb u e=>by rw[az (aT e h)];exact e
theorem aK{H H2:Hp}{l:Addr}{o:HO}(h:H l=none)(s:aF H H2):aF H (upd H2 l o):=λb u e=>by rw[az (aT e h)];exact s b u e
theorem pU{i:Nat}{x:V}{σ:St}{H:Hp}{A B:St->Hp->Prop}(h:A (σ.set i (some x)) H):bA i x σ H (λτ2 H2=>Jp τ2 H2 λb H3=>if b=true then A τ2 H3 else B τ2 H3):=by
 show(if true=true then A (σ.set i (some x)) H else B (σ.set i (some x)) H)
 exact kC h
theorem Mt{p A B:Prop}[Decidable p](hp:p)(h:A):if decide p=true then A else B:=by rw[YA (YJ hp)];exact h
theorem Ey{p A B:Prop}[Decidable p](hp:¬p)(h:B):if decide p=true then A else B:=by rw[Yz (by simpa using hp)];exact h
theorem Iw{A B:Prop}{b:Bool}(hb:b=true)(h:B):if (!b)=true then A else B:=by rw[hb];exact cU h
theorem w6{α:Type}{xs:List α}{i:Int}(h0:0<=i)(h:i<xs.length):∃c,zV xs i=some c/\c∈xs:=by
 obtain⟨j,rfl⟩:∃j:Nat,i=j:=⟨i.toNat,by omega⟩
 have hj:j<xs.length:=by omega
 exact⟨xs[j],iB (by simp[hj]),List.getElem_mem hj⟩
theorem take_snoc{l:List Nat}{i c:Nat}(h:l[i]?=some c):l.take (i+1)=l.take i++[c]:=by
 rw[List.take_succ,h];rfl
def Pn(c:Nat):Prop:=32<=c/\c<=126/\c≠37
instance(c:Nat):Decidable (Pn c):=by unfold Pn;exact inferInstance
structure Sg(z:Str):Prop where
 nd:z.cps.toList.Nodup
 pr:∀c∈z.cps.toList,Pn c
def Mn(z:Str):Prop:=0<z.length/\z.length<=100/\∀c∈z.cps.toList,Pn c
instance(z:Str):Decidable (Mn z):=by unfold Mn;exact inferInstance
structure Gd(p q f:Str):Prop where
 gp:Sg p
 gq:Sg q
 gf:Sg f
 p1:1<=p.length
 p3:p.length<=3
 q2:q.length<=2
 f2:f.length<=2
def zb(p q f:Str)(b1 b2 b3 b4:Bool):List V:=[.str p,.str q,.str f,.bl b1,.bl b2,.bl b3,.bl b4]
def yu(p q f:Str)(b1 b2 b3 b4:Bool):List (Str×V):=[("parts",.str p),("quotes",.str q),("frees",.str f),("twin",.bl b1),("wide",.bl b2),("thin",.bl b3),("stray",.bl b4)]
def away(t:Str)(c:Nat):Bool:=!(!(Builtin.Str.occurrences t (sg c) 0 t.length 1).isEmpty)
theorem Ez(t:Str)(c:Nat):away t c=true↔c∉t.cps.toList:=by
 unfold away
 have e:(!(Builtin.Str.occurrences t (sg c) 0 t.length 1).isEmpty)=decide (c∈t.cps.toList):=StrLaws.found_one t c
 rw[e]
 simp
theorem cR(a b:Str):(a++b).length=a.length+b.length:=by
 show(a.cps++b.cps).size=_
 rw[Array.size_append];rfl
theorem aL{K:W.Frag}{H H':Hp}{a:Addr}{xs:List V}(e:aF H H')(h:bU K H a xs):bU K H' a xs:=by
 rcases h with (h|⟨o,h⟩)|h
 ·exact .inl (.inl (e _ _ h))
 ·exact .inl (.inr ⟨o,e _ _ h⟩)
 ·exact .inr h
theorem Mu{A B:Prop}{b:Bool}(hb:b=false)(h:A):if (!b)=true then A else B:=by rw[hb];exact kC h
theorem EA{A B:Prop}{b:Bool}(hb:b=true)(h:A):if b=true then A else B:=by rw[hb];exact kC h
theorem tK{A B:Prop}{b:Bool}(hb:b=false)(h:B):if b=true then A else B:=by rw[hb];exact cU h
def gG(c:Nat)(z:Str):Bool:=!(Builtin.Str.occurrences z (sg c) 0 z.length 1).isEmpty
def aZ(a b:Str):Bool:=decide (V.str a=V.str b)
theorem ja{a b:Str}(h:aZ a b=true):a=b:=by have:=Zg h;cases this;rfl
theorem aI(a:Str):aZ a a=true:=YJ rfl
inductive Res where
 |go (k w u:Str)
 |nH (w:Str)
def uV(K:W.Frag)(H:Hp)(v:V):Res->Prop
 | .go k w u=>aZ k ("fault":Str)=false/\∃a b,v=.ref a/\bU K H a [.str k,.ref b]/\bU K H b [.str w,.str u]
 | .nH w=>∃a,v=.ref a/\bU K H a [.str ("fault":Str),.str w]
theorem dX{K:W.Frag}{H:Hp}{Q:VK}{k w u:Str}{r:Res}(e:r=.go k w u)(hk:aZ k ("fault":Str)=false)(h:∀v H',aF H H'->uV K H' v r->Q v H'):[V.str w,V.str u].length<=sizeLine/\∀b,H b=none->([V.str k,V.ref b].length<=sizeLine/\∀a,(upd H b (.tup [.str w,.str u])) a=none->Q (.ref a) (upd (upd H b (.tup [.str w,.str u])) a (.tup [.str k,.ref b]))):=by
 refine⟨(by show 2<=sizeLine;decide),λb hb=>⟨(by show 2<=sizeLine;decide),λa ha=>?_⟩⟩
 have s1:=au (o:=HO.tup [.str w,.str u]) hb
 have s2:=au (o:=HO.tup [.str k,.ref b]) ha
 refine h _ _ (s1.trans s2) ?_
 rw[e]
 exact⟨hk,a,b,O,bU.of aj,aL s2 (bU.of aj)⟩
theorem xg{K:W.Frag}{H H0:Hp}{Q:VK}{k w u:Str}{r:Res}{b:Addr}(e:r=.go k w u)(hk:aZ k ("fault":Str)=false)(s0:aF H0 H)(hb:bU K H b [.str w,.str u])(h:∀v H',aF H0 H'->uV K H' v r->Q v H'):[V.str k,V.ref b].length<=sizeLine/\∀a,H a=none->Q (.ref a) (upd H a (.tup [.str k,.ref b])):=by
 refine⟨(by show 2<=sizeLine;decide),λa ha=>?_⟩
 have s2:=au (o:=HO.tup [.str k,.ref b]) ha
 refine h _ _ (s0.trans s2) ?_
 rw[e]
 exact⟨hk,a,b,O,bU.of aj,aL s2 hb⟩
theorem tL{K:W.Frag}{H:Hp}{Q:VK}{w:Str}{r:Res}(e:r=.nH w)(h:∀v H',aF H H'->uV K H' v r->Q v H'):[V.str ("fault":Str),V.str w].length<=sizeLine/\∀a,H a=none->Q (.ref a) (upd H a (.tup [.str ("fault":Str),.str w])):=by
 refine⟨(by show 2<=sizeLine;decide),λa ha=>?_⟩
 have s2:=au (o:=HO.tup [.str ("fault":Str),.str w]) ha
 refine h _ _ s2 ?_
 rw[e]
 exact⟨a,O,bU.of aj⟩
theorem iF:aZ ("skip":Str) ("fault":Str)=false:=by decide +kernel
theorem Ax:aZ ("end":Str) ("fault":Str)=false:=by decide +kernel
theorem xh:aZ ("part":Str) ("fault":Str)=false:=by decide +kernel
theorem gZ:aZ ("put":Str) ("fault":Str)=false:=by decide +kernel
def dW(p q f:Str)(b3:Bool)(w u:Str)(c:Nat):Res :=
 if gG c f=true then .go ("skip":Str) ("freed":Str) ("":Str) else
 if aZ (sg c) (Str.ofString "\n")=true then .go ("end":Str) ("row":Str) ("":Str) else
 if gG c q=true then .go ("skip":Str) ("within":Str) (sg c) else
 if gG c p=true then .go ("part":Str) ("cell":Str) ("":Str) else
 if aZ (sg c) (" ":Str)=true then (if b3=true then .go ("skip":Str) w u else .go ("put":Str) ("plain":Str) ("":Str)) else
 .go ("put":Str) ("plain":Str) ("":Str)
def fL(p q f:Str)(b4:Bool)(c:Nat):Res :=
 if gG c f=true then .go ("skip":Str) ("freed":Str) ("":Str) else
 if aZ (sg c) (Str.ofString "\n")=true then .go ("end":Str) ("row":Str) ("":Str) else
 if gG c p=true then .go ("part":Str) ("cell":Str) ("":Str) else
 if gG c q=true then (if (!b4)=true then .nH ("quote":Str) else .go ("put":Str) ("plain":Str) ("":Str)) else
 .go ("put":Str) ("plain":Str) ("":Str)
def dg(f:Str)(b1 b2:Bool)(u:Str)(c:Nat):Res :=
 if gG c f=true then .go ("skip":Str) ("freed":Str) u else
 if aZ (sg c) u=true then (if b1=true then .go ("skip":Str) ("doubt":Str) u else .go ("skip":Str) ("behind":Str) ("":Str)) else
 if aZ (sg c) (Str.ofString "\n")=true then (if (!b2)=true then .nH ("line":Str) else .go ("put":Str) ("within":Str) u) else
 .go ("put":Str) ("within":Str) u
def dh(p:Str)(b3:Bool)(c:Nat):Res :=
 if aZ (sg c) (Str.ofString "\n")=true then .go ("end":Str) ("row":Str) ("":Str) else
 if gG c p=true then .go ("part":Str) ("cell":Str) ("":Str) else
 if aZ (sg c) (" ":Str)=true then (if b3=true then .go ("skip":Str) ("behind":Str) ("":Str) else .nH ("behind":Str)) else
 .nH ("behind":Str)
def jB(p:Str)(b3:Bool)(u:Str)(c:Nat):Res:=if aZ (sg c) u=true then .go ("put":Str) ("within":Str) u else dh p b3 c
def fP(u:Str):Res:=if aZ u ("":Str)=true then .go ("put":Str) ("plain":Str) ("":Str) else .go ("put":Str) ("within":Str) u
def gb(b2:Bool)(u:Str)(c:Nat):Res :=
 if aZ (sg c) (Str.ofString "\n")=true then (if (!b2)=true then .nH ("line":Str) else fP u) else fP u
def mE(p q f:Str)(b3 b4:Bool)(w u:Str)(c:Nat):Res:=if aZ w ("plain":Str)=true then fL p q f b4 c else dW p q f b3 w u c
def bf(p q f:Str)(b1 b2 b3 b4:Bool)(w u:Str)(c:Nat):Res :=
 if aZ w ("within":Str)=true then dg f b1 b2 u c else
 if aZ w ("freed":Str)=true then gb b2 u c else
 if aZ w ("doubt":Str)=true then jB p b3 u c else
 if aZ w ("behind":Str)=true then dh p b3 c else
 mE p q f b3 b4 w u c
theorem ns{a b:String}(h:aZ (Str.ofString a) (Str.ofString b)=false):¬aZ (Str.ofString a) (Str.ofString b)=true:=by rw[h];decide
theorem zc{p q f:Str}{b1 b2 b3 b4:Bool}{w u:Str}{c:Nat}(h:aZ w ("plain":Str)=true):bf p q f b1 b2 b3 b4 w u c=fL p q f b4 c:=by
 cases ja h
 unfold bf mE
 rw[Yz (ns (by decide +kernel)),Yz (ns (by decide +kernel)),Yz (ns (by decide +kernel)),Yz (ns (by decide +kernel)),YA (aI _)]
theorem lN{p q f:Str}{b1 b2 b3 b4:Bool}{w u:Str}{c:Nat}(h:aZ w ("within":Str)=true):bf p q f b1 b2 b3 b4 w u c=dg f b1 b2 u c:=by
 unfold bf
 rw[YA h]
theorem tM{p q f:Str}{b1 b2 b3 b4:Bool}{w u:Str}{c:Nat}(h:aZ w ("doubt":Str)=true):bf p q f b1 b2 b3 b4 w u c=jB p b3 u c:=by
 cases ja h
 unfold bf
 rw[Yz (ns (by decide +kernel)),Yz (ns (by decide +kernel)),YA (aI _)]
theorem vS{p q f:Str}{b1 b2 b3 b4:Bool}{w u:Str}{c:Nat}(h:aZ w ("behind":Str)=true):bf p q f b1 b2 b3 b4 w u c=dh p b3 c:=by
 cases ja h
 unfold bf
 rw[Yz (ns (by decide +kernel)),Yz (ns (by decide +kernel)),Yz (ns (by decide +kernel)),YA (aI _)]
theorem nU{p q f:Str}{b1 b2 b3 b4:Bool}{w u:Str}{c:Nat}(h:aZ w ("freed":Str)=true):bf p q f b1 b2 b3 b4 w u c=gb b2 u c:=by
 cases ja h
 unfold bf
 rw[Yz (ns (by decide +kernel)),YA (aI _)]
theorem sL{p q f:Str}{b1 b2 b3 b4:Bool}{w u:Str}{c:Nat}(h1:aZ w ("within":Str)=false)(h2:aZ w ("freed":Str)=false)(h3:aZ w ("doubt":Str)=false)(h4:aZ w ("behind":Str)=false):bf p q f b1 b2 b3 b4 w u c=mE p q f b3 b4 w u c:=by
 unfold bf
 rw[h1,h2,h3,h4]
 rfl
theorem tN{b:Bool}(h:¬b=true):b=false:=by cases b<;>simp_all
def O6(d:Addr):List (Str×V):=[("dialect",.ref d)]
structure Tn(C CT:Addr)(H:Hp)(y:Addr)(p q f:Str)(b1 b2 b3 b4:Bool):Prop where
 ok:∃dy d dd,H y=some (.ins CT dy (O6 d))/\H d=some (.ins C dd (yu p q f b1 b2 b3 b4))
theorem Tn.mono{C CT:Addr}{H H':Hp}{y:Addr}{p q f:Str}{b1 b2 b3 b4:Bool}(s:aF H H')(h:Tn C CT H y p q f b1 b2 b3 b4):Tn C CT H' y p q f b1 b2 b3 b4:=by
 obtain⟨dy,d,dd,e1,e2⟩:=h.ok
 exact⟨dy,d,dd,s _ _ e1,s _ _ e2⟩
theorem pV{H H':Hp}{y dy:Addr}{o:HO}(hy:H y=none)(La:H dy=none)(kp:∀b o',upd (upd H dy (.own y)) y o b=some o'->b≠y->H' b=some o'):aF H H':=λb o' e=>kp b o' (by rw[az (aT e hy),az (aT e La)];exact e) (aT e hy)
theorem kI{H:Hp}{y dy b:Addr}{o o':HO}(hy:H y=none)(La:H dy=none)(e:H b=some o'):upd (upd H dy (.own y)) y o b=some o':=by rw[az (aT e hy),az (aT e La)];exact e
def bW(K:W.Frag)(H:Hp)(x:V)(w:Str×Str):Prop:=∃a,x=.ref a/\bU K H a [.str w.1,.str w.2]
theorem bW.mono{K:W.Frag}{H H':Hp}{x:V}{w:Str×Str}(e:aF H H')(h:bW K H x w):bW K H' x w:=let ⟨a,e1,e2⟩:=h;⟨a,e1,aL e e2⟩
theorem bW.but{K:W.Frag}{H:Hp}{x:V}{w:Str×Str}{l:Addr}{ys:List V}{o:HO}(hl:H l=some (.lst ys))(h:bW K H x w):bW K (upd H l o) x w:=by
 obtain⟨a,e1,e2⟩:=h
 refine⟨a,e1,?_⟩
 rcases e2 with (h|⟨ob,h⟩)|h
 ·exact .inl (.inl ((az (jg h hl (by intro z;cases z))).trans h))
 ·exact .inl (.inr ⟨ob,(az (jg h hl (by intro z;cases z))).trans h⟩)
 ·exact .inr h
theorem aB{α β:Type}{F G:α->β->Prop}(h:∀a b,F a b->G a b):∀{xs:List α}{ys:List β},Paired F xs ys->Paired G xs ys
 |_,_,.nil=>.nil
 |_,_,.cons q r=>.cons (h _ _ q) (aB h r)
theorem dG{α β:Type}{F:α->β->Prop}:∀{xs xs':List α}{ys ys':List β},Paired F xs ys->Paired F xs' ys'->Paired F (xs++xs') (ys++ys')
 |_,_,_,_,.nil,r=>r
 |_,_,_,_,.cons q t,r=>.cons q (dG t r)
theorem aP{α β:Type}{F:α->β->Prop}:∀{xs:List α}{ys:List β},Paired F xs ys->∀(j:Nat) x,xs[j]?=some x->∃y,ys[j]?=some y/\F x y
 |_,_,.nil,j,x,h=>by simp at h
 |_,_,.cons q t,0,x,h=>by simp at h;subst h;exact⟨_,rfl,q⟩
 |_,_,.cons q t,j+1,x,h=>by
  obtain⟨y,h1,h2⟩:=aP t j x (by simpa using h)
  exact⟨y,by simpa using h1,h2⟩
def c5:List (Str×Str):=[(Str.ofString "row",("":Str)),(Str.ofString "cell",("":Str)),(Str.ofString "plain",("":Str)),(Str.ofString "behind",("":Str)),(Str.ofString "freed",("":Str))]
def c3(c:Nat):List (Str×Str):=[(Str.ofString "within",sg c),(Str.ofString "doubt",sg c),(Str.ofString "freed",sg c)]
def cont(l:List Nat):List (Str×Str):=c5++l.flatMap c3
def O7(u f:Str):Bool:=!(!(Builtin.Str.occurrences f u 0 f.length 1).isEmpty)
def dY(f w u:Str):Bool:=if aZ u ("":Str)=true then true else if aZ w ("doubt":Str)=true then true else O7 u f
theorem jC(c:Nat)(z:Str):gG c z=decide (c∈z.cps.toList):=StrLaws.found_one z c
theorem JE{c:Nat}{z:Str}(h:c∉z.cps.toList):¬gG c z=true:=by rw[jC];simpa using h
theorem RP{z:Str}(g:Sg z):¬gG 10 z=true:=JE λh=>by have:=(g.pr 10 h).1;omega
theorem JF{c d:Nat}(h:c≠d):¬aZ (sg c) (sg d)=true:=λe=>by
 have:=ja e
 unfold sg at this
 injection this with e2
 exact h (by simpa using e2)
theorem tO:∀c:Nat,¬aZ (sg c) ("":Str)=true:=λc e=>by
 have:=congrArg Str.length (ja e)
 have e0:("":Str).length=0:=by decide +kernel
 rw[e0]at this
 exact absurd this (by show ¬(1=0);decide)
theorem app_list(a b:Str):(a++b).cps.toList=a.cps.toList++b.cps.toList:=by
 show(a.cps++b.cps).toList=_
 simp
theorem sM:("":Str).cps.toList=[]:=by decide +kernel
def nV(q w u:Str):Prop:=(u=Str.ofString ""/\(w=Str.ofString "row"\/w=Str.ofString "cell"\/w=Str.ofString "plain"\/w=Str.ofString "behind"\/w=("freed":Str)))\/∃c,c∈q.cps.toList/\u=sg c/\(w=Str.ofString "within"\/w=Str.ofString "doubt"\/w=("freed":Str))
theorem pW{p q f:Str}{b1 b2 b3 b4:Bool}{u:Str}{c:Nat}(a:String)(h1:aZ (Str.ofString a) ("within":Str)=false)(h2:aZ (Str.ofString a) ("freed":Str)=false)(h3:aZ (Str.ofString a) ("doubt":Str)=false)(h4:aZ (Str.ofString a) ("behind":Str)=false):bf p q f b1 b2 b3 b4 (Str.ofString a) u c=mE p q f b3 b4 (Str.ofString a) u c:=sL h1 h2 h3 h4
theorem jD{K:W.Frag}{H:Hp}{a l:Addr}{xs ys:List V}{o:HO}(hl:H l=some (.lst ys))(e2:bU K H a xs):bU K (upd H l o) a xs:=by
 rcases e2 with (h|⟨ob,h⟩)|h
 ·exact .inl (.inl ((az (jg h hl (by intro z;cases z))).trans h))
 ·exact .inl (.inr ⟨ob,(az (jg h hl (by intro z;cases z))).trans h⟩)
 ·exact .inr h
theorem aM{α:Type}{l:List α}{i:Nat}{c:α}(h:l[i]?=some c):l.take (i+1)=l.take i++[c]:=by
 rw[List.take_succ,h];rfl
def cy(z:Str):Prop:=∀k∈z.cps.toList,k=10\/Pn k
theorem Uc{c:Nat}{z:Str}(e:z=("\n":Str))(h:¬decide (V.str (sg c)=V.str z)=true):c≠10:=λe2=>h (by
 have:Str.ofString "\n"=sg 10:=by decide +kernel
 rw[e,e2,this];exact YJ rfl)
theorem lO{t u:TS}{D:Ends}{σ:St}{H:Hp}(N:St->Hp->Prop)(hu:∀σ' H',N σ' H'->u D σ' H')(ht:(∀σ' H',N σ' H'->u D σ' H')->t {D with nx:=u D} σ H):Dv t u D σ H:=ht hu
theorem Ay:cy ("":Str):=by
 have e:("":Str).cps.toList=[]:=by decide +kernel
 intro k hk;rw[e]at hk;cases hk
theorem kJ:("":Str).length=0:=by decide +kernel
def runM(p q f:Str)(b1 b2 b3 b4:Bool):Str->Str->List Nat->List Str×Str×Str×Option Str
 |w,u,[]=>([],w,u,none)
 |w,u,c::cs=>match bf p q f b1 b2 b3 b4 w u c with
  | .nH e=>([],w,u,some e)
  | .go k w' u'=>(k::(runM p q f b1 b2 b3 b4 w' u' cs).1,(runM p q f b1 b2 b3 b4 w' u' cs).2)
def O8(ks:List Str)(r:List Str×Str×Str×Option Str):List Str×Str×Str×Option Str:=(ks++r.1,r.2)
theorem lP{p q f:Str}{b1 b2 b3 b4:Bool}{w u k w' u':Str}{c:Nat}{cs:List Nat}(h:bf p q f b1 b2 b3 b4 w u c=.go k w' u'):runM p q f b1 b2 b3 b4 w u (c::cs)=(k::(runM p q f b1 b2 b3 b4 w' u' cs).1,(runM p q f b1 b2 b3 b4 w' u' cs).2):=by
 show(match bf p q f b1 b2 b3 b4 w u c with | .nH e=>([],w,u,some e) | .go k w' u'=>(k::(runM p q f b1 b2 b3 b4 w' u' cs).1,(runM p q f b1 b2 b3 b4 w' u' cs).2))=_
 rw[h]
theorem zd{p q f:Str}{b1 b2 b3 b4:Bool}{w u e:Str}{c:Nat}{cs:List Nat}(h:bf p q f b1 b2 b3 b4 w u c=.nH e):runM p q f b1 b2 b3 b4 w u (c::cs)=([],w,u,some e):=by
 show(match bf p q f b1 b2 b3 b4 w u c with | .nH e=>([],w,u,some e) | .go k w' u'=>(k::(runM p q f b1 b2 b3 b4 w' u' cs).1,(runM p q f b1 b2 b3 b4 w' u' cs).2))=_
 rw[h]
theorem EB{q:Str}{c:Nat}(h:gG c q=true):c∈q.cps.toList:=by rw[jC]at h;exact Zg h
theorem nW{p q f:Str}{b1 b2 b3 b4:Bool}{w u k w' u':Str}{c:Nat}(h:nV q w u)(hs:bf p q f b1 b2 b3 b4 w u c=.go k w' u'):nV q w' u':=by
 have EC:∀{w u:Str},nV q w u->mE p q f b3 b4 w u c=.go k w' u'->nV q w' u':=by
  intro w u h hs
  unfold mE fL dW at hs
  repeat' split at hs
  all_goals first
   | (cases hs;exact .inl ⟨rfl,.inl rfl⟩)
   | (cases hs;exact .inl ⟨rfl,.inr (.inl rfl)⟩)
   | (cases hs;exact .inl ⟨rfl,.inr (.inr (.inl rfl))⟩)
   | (cases hs;exact .inl ⟨rfl,.inr (.inr (.inr (.inr rfl)))⟩)
   | (cases hs;rename_i hq _ _;exact .inr ⟨c,EB (by assumption),rfl,.inl rfl⟩)
   | (cases hs;exact .inr ⟨c,EB (by assumption),rfl,.inl rfl⟩)
   | (cases hs;exact h)
   |cases hs
 have Mv:dh p b3 c=.go k w' u'->nV q w' u':=by
  intro hs
  unfold dh at hs
  repeat' split at hs
  all_goals first
   | (cases hs;exact .inl ⟨rfl,.inl rfl⟩)
   | (cases hs;exact .inl ⟨rfl,.inr (.inl rfl)⟩)
   | (cases hs;exact .inl ⟨rfl,.inr (.inr (.inr (.inl rfl)))⟩)
   |cases hs
 rcases h with ⟨rfl,rfl|rfl|rfl|rfl|rfl⟩|⟨d,hd,rfl,rfl|rfl|rfl⟩
 ·rw[pW "row" (by decide +kernel) (by decide +kernel) (by decide +kernel) (by decide +kernel)]at hs
  exact EC (.inl ⟨rfl,.inl rfl⟩) hs
 ·rw[pW "cell" (by decide +kernel) (by decide +kernel) (by decide +kernel) (by decide +kernel)]at hs
  exact EC (.inl ⟨rfl,.inr (.inl rfl)⟩) hs
 ·rw[pW "plain" (by decide +kernel) (by decide +kernel) (by decide +kernel) (by decide +kernel)]at hs
  exact EC (.inl ⟨rfl,.inr (.inr (.inl rfl))⟩) hs
 ·rw[vS (aI _)]at hs
  exact Mv hs
 ·rw[nU (aI _)]at hs
  unfold gb fP at hs
  rw[YA (aI _)]at hs
  repeat' split at hs
  all_goals first
   | (cases hs;exact .inl ⟨rfl,.inr (.inr (.inl rfl))⟩)
   |cases hs
 ·rw[lN (aI _)]at hs
  unfold dg at hs
  repeat' split at hs
  all_goals first
   | (cases hs;exact .inr ⟨d,hd,rfl,.inr (.inr rfl)⟩)
   | (cases hs;exact .inr ⟨d,hd,rfl,.inr (.inl rfl)⟩)
   | (cases hs;exact .inr ⟨d,hd,rfl,.inl rfl⟩)
   | (cases hs;exact .inl ⟨rfl,.inr (.inr (.inr (.inl rfl)))⟩)
   |cases hs
 ·rw[tM (aI _)]at hs
  unfold jB at hs
  split at hs
  ·cases hs;exact .inr ⟨d,hd,rfl,.inl rfl⟩
  ·exact Mv hs
 ·rw[nU (aI _)]at hs
  unfold gb fP at hs
  rw[Yz (tO d)]at hs
  repeat' split at hs
  all_goals first
   | (cases hs;exact .inr ⟨d,hd,rfl,.inl rfl⟩)
   |cases hs
structure Lb where
 rows:List (List Str)
 row:List Str
 cell:Str
def JG:Lb:=⟨[],[],("":Str)⟩
theorem Co{z:Str}{lo hi:Option Int}{c:Nat}(h:c∈(Txt.slice z lo hi).cps.toList):c∈z.cps.toList:=by
 unfold Txt.slice at h
 split at h
 ·exact h
 ·have h:c∈List.filterMap (λx=>z.cps[x]?) (Builtin.Str.strSliceIndices lo hi 1 z.length):=h
  obtain⟨k,_,hk⟩:=List.mem_filterMap.mp h
  exact Array.mem_toList_iff.mpr (Array.mem_of_getElem? hk)
theorem ED{z:Str}{n:Int}(h0:0<=n):((Txt.slice z none (some n)).length:Int)<=n:=by
 have key:((Builtin.Str.strSliceIndices none (some n) 1 z.length).length:Int)<=n:=by
  unfold Builtin.Str.strSliceIndices sliceRange
  simp only[show(1:Int)>0 by decide,if_true,YC,ZD]
  split<;>(try split)<;>(try simp only[Int.ediv_one])<;>omega
 unfold Txt.slice
 split
 ·rename_i e
  have e2:(Builtin.Str.strSliceIndices none (some n) 1 z.length).length=z.length:=by simpa using e
  omega
 ·have:(List.filterMap (λx=>z.cps[x]?) (Builtin.Str.strSliceIndices none (some n) 1 z.length)).toArray.size<=(Builtin.Str.strSliceIndices none (some n) 1 z.length).length:=by
   rw[YH];exact List.length_filterMap_le _ _
  show(((List.filterMap (λx=>z.cps[x]?) (Builtin.Str.strSliceIndices none (some n) 1 z.length)).toArray.size:Nat):Int)<=n
  omega
theorem tP(a:Array Nat):∀(n:Nat)(acc:Array Nat),((List.replicate n a).foldl (· ++ ·) acc).size=acc.size+n*a.size/\∀c∈((List.replicate n a).foldl (· ++ ·) acc).toList,c∈acc.toList\/c∈a.toList
 | 0,acc=>⟨by simp,λc hc=>.inl hc⟩
 |n+1,acc=>by
  rw[List.replicate_succ,Zw]
  obtain⟨h1,h2⟩:=tP a n (acc++a)
  refine⟨by rw[h1,Array.size_append,Nat.succ_mul];omega,λc hc=>?_⟩
  rcases h2 c hc with h|h
  ·rw[Array.toList_append]at h
   exact Y3.mp h
  ·exact .inr h
theorem BB(z:Str)(n:Nat):(lV z n).length=n*z.length:=by
 have:=(tP z.cps n #[]).1
 show((List.replicate n z.cps).foldl (· ++ ·) #[]).size=_
 rw[this];simp;rfl
theorem EE{z:Str}{n:Nat}(h:cy z):cy (lV z n):=λc hc=>by
 rcases(tP z.cps n #[]).2 c hc with q|q
 ·cases q
 ·exact h c q
theorem EF{z:Str}{lo hi:Option Int}(h:cy z):cy (Txt.slice z lo hi):=λc hc=>h c (Co hc)
theorem tQ{a b:Str}(h1:cy a)(h2:cy b):cy (a++b):=λc hc=>by
 rw[app_list]at hc
 rcases Y3.mp hc with q|q
 ·exact h1 c q
 ·exact h2 c q
theorem Az{a b:String}(h:aZ (Str.ofString a) (Str.ofString b)=false):Str.ofString a≠Str.ofString b:=λe=>by rw[e,aI]at h;cases h
theorem zf{p q f:Str}{b1 b2 b3 b4:Bool}{ds:List Nat}:∀{cs:List Nat}{w u:Str},(runM p q f b1 b2 b3 b4 w u cs).2.2.2=none->runM p q f b1 b2 b3 b4 w u (cs++ds)=O8 (runM p q f b1 b2 b3 b4 w u cs).1 (runM p q f b1 b2 b3 b4 (runM p q f b1 b2 b3 b4 w u cs).2.1 (runM p q f b1 b2 b3 b4 w u cs).2.2.1 ds)
 |[],w,u,_=>by
  show runM p q f b1 b2 b3 b4 w u ds=([]++(runM p q f b1 b2 b3 b4 w u ds).1,(runM p q f b1 b2 b3 b4 w u ds).2)
  rw[ZN]
 |c::cs,w,u,h=>by
  show runM p q f b1 b2 b3 b4 w u (c::(cs++ds))=_
  cases hs:bf p q f b1 b2 b3 b4 w u c with
  |go k w' u' =>
   rw[lP hs]at h
   have e:=zf (cs:=cs) (w:=w') (u:=u') (ds:=ds) h
   rw[lP hs,lP hs,e]
   rfl
  |nH e=>rw[zd hs]at h;cases h
theorem nX{a b:Str}(h:a.cps.toList=b.cps.toList):a=b:=by
 obtain⟨x⟩:=a;obtain⟨y⟩:=b
 have:x=y:=Array.toList_inj.mp h
 rw[this]
def Cp:List Str->Str
 |[]=>Str.ofString ""
 |z::r=>z++Cp r
theorem EG(z:Str):Str.ofString ""++z=z:=nX (by rw[app_list,sM];rfl)
theorem EH(z:Str):z++Str.ofString ""=z:=nX (by rw[app_list,sM,Ze])
def lens(r:List Str):List Nat:=r.map λz=>z.length
def total(t:List (List Str)):Nat:=(t.map λr=>(lens r).sum).sum
structure zg(r:List Str):Prop where
 lo:1<=r.length
 hi:r.length<=20
 ok:∀c∈r,cy c
structure TabOk(t:List (List Str)):Prop where
 n:t.length<=60
 rows:∀r∈t,zg r
 sum:total t<=400
theorem BC{ns:List Nat}{n:Nat}(h:n∈ns):n<=ns.sum:=by
 induction ns with
 |nil=>cases h
 |cons m ns ih =>
  rw[Zy]
  rcases Y7.mp h with rfl|h
  ·omega
  ·have:=ih h;omega
theorem lQ{t:List (List Str)}{r:List Str}(h:r∈t):(lens r).sum<=total t:=BC (List.mem_map_of_mem h)
theorem kK{r:List Str}{c:Str}(h:c∈r):c.length<=(lens r).sum:=BC (List.mem_map_of_mem (f:=λz:Str=>z.length) h)
def aU(H:Hp)(v:V)(r:List Str):Prop:=∃a,v=.ref a/\H a=some (.lst (r.map V.str))
theorem aU.mono{H H':Hp}{v:V}{r:List Str}(s:aF H H')(h:aU H v r):aU H' v r:=let ⟨a,e1,e2⟩:=h;⟨a,e1,s _ _ e2⟩
def kL(z:Str):List (Str×Str):=z.cps.toList.map λk=>(Str.ofString "put",sg k)
def di:Str×Str:=(Str.ofString "part",("":Str))
def gc:Str×Str:=(Str.ofString "end",("":Str))
def gE:List Str->Nat->List (Str×Str)
 |_,0=>[]
 |r,n+1=>gE r n++((if n=0 then [] else [di])++kL (r.getD n ("":Str)))
def gg(r:List Str):List (Str×Str):=gE r r.length++[gc]
def aR(t:List (List Str)):List (Str×Str):=t.flatMap gg
theorem eL{r:List Str}{n:Nat}{z:Str}(h:r[n]?=some z):gE r (n+1)=gE r n++((if n=0 then [] else [di])++kL z):=by
 show gE r n++((if n=0 then [] else [di])++kL (r.getD n ("":Str)))=_
 rw[List.getD_eq_getElem?_getD,h];rfl
theorem EI(z:Str):(kL z).length=z.length:=by unfold kL;rw[YC,YX];rfl
theorem nY(r:List Str):∀n,n<=r.length->(gE r n).length+(if n=0 then 0 else 1)=n+(lens (r.take n)).sum
 | 0,_=>by simp[gE,lens]
 |n+1,h=>by
  have hn:n<r.length:=by omega
  rw[eL (z:=r[n]) (by simp[hn]),YE,YE,EI,aM (c:=r[n]) (by simp[hn])]
  have ih:=nY r n (by omega)
  unfold lens at ih⊢
  rw[YW,Zv]
  simp only[Zl,List.map_nil,Zy,List.sum_nil]
  by_cases h0:n=0
  ·subst h0;simp[gE];omega
  ·simp[h0]at ih⊢;omega
theorem AA{r:List Str}(h:1<=r.length):(gg r).length=r.length+(lens r).sum:=by
 unfold gg
 have:=nY r r.length (YB _)
 rw[YR (YB _),Yz (by omega)]at this
 rw[YE];show _+1=_;omega
theorem AB{t:List (List Str)}(h:∀r∈t,zg r):(aR t).length=(t.map λr=>r.length+(lens r).sum).sum:=by
 unfold aR
 induction t with
 |nil=>rfl
 |cons r t ih =>
  rw[List.flatMap_cons,YE,ih (λr' h'=>h r' (YS _ h')),AA (h r (Y6 ..)).lo,Zl,Zy]
theorem Cq{t:List (List Str)}(h:∀r∈t,zg r):(t.map λr=>r.length+(lens r).sum).sum<=20*t.length+total t:=by
 unfold total
 induction t with
 |nil=>exact YB _
 |cons r t ih =>
  have h1:=(h r (Y6 ..)).hi
  have h2:=ih λr' h'=>h r' (YS _ h')
  rw[Zl,Zy,Zl,Zy,YY]
  omega
theorem nZ{t:List (List Str)}(h:TabOk t)(i:Nat):(aR (t.take i)).length<=1600:=by
 have hr:∀r∈t.take i,zg r:=λr hr=>h.rows r (List.mem_of_mem_take hr)
 rw[AB hr]
 have h1:=Cq hr
 have h2:(t.take i).length<=60:=by rw[Zn];have:=h.n;omega
 have h3:total (t.take i)<=total t:=by
  unfold total
  have e:=congrArg (λl=>(l.map λr=>(lens r).sum).sum) (List.take_append_drop i t)
  simp only[YW,Zv]at e
  omega
 have:=h.sum
 omega
theorem iG(t:List (List Str))(r:List Str):aR (t++[r])=aR t++gg r:=by unfold aR;rw[List.flatMap_append];simp
theorem bP{α β:Type}{F:α->β->Prop}{xs:List α}{ys:List β}{x:α}{y:β}(h:Paired F xs ys)(q:F x y):Paired F (xs++[x]) (ys++[y]):=dG h (.cons q .nil)
def cF(l:Addr)(H:Hp)(v:V)(r:List Str):Prop:=∃a,v=.ref a/\a≠l/\H a=some (.lst (r.map V.str))
theorem cF.mono{l:Addr}{H H':Hp}{v:V}{r:List Str}(s:aF H H')(h:cF l H v r):cF l H' v r:=let ⟨a,e1,n,e2⟩:=h;⟨a,e1,n,s _ _ e2⟩
theorem cF.but{l:Addr}{H:Hp}{v:V}{r:List Str}{o:HO}(h:cF l H v r):cF l (upd H l o) v r:=let ⟨a,e1,n,e2⟩:=h;⟨a,e1,n,(az n).trans e2⟩
theorem cF.row{l:Addr}{H:Hp}{v:V}{r:List Str}(h:cF l H v r):aU H v r:=let ⟨a,e1,n,e2⟩:=h;⟨a,e1,e2⟩
theorem EJ{K:W.Frag}{H:Hp}{x y:V}{r:List Str}(h1:aU H x r)(h2:aU H y r):kD K H 1 x y:=by
 obtain⟨a,rfl,ha⟩:=h1
 obtain⟨b,rfl,hb⟩:=h2
 refine .lst (aX.of ha) (aX.of hb) rfl λj x y ex ey=>?_
 rw[ex]at ey;cases ey
 obtain⟨z,_,rfl⟩:=Zx.mp (YT ex)
 exact .flat rfl rfl (tw rfl)
theorem Cr{K:W.Frag}{H:Hp}{xs ys:List V}{t:List (List Str)}(h1:Paired (aU H) xs t)(h2:Paired (aU H) ys t):∀(j:Nat) x y,xs[j]?=some x->ys[j]?=some y->kD K H 1 x y:=by
 intro j x y ex ey
 obtain⟨r,e1,q1⟩:=aP h1 j x ex
 obtain⟨r',e2,q2⟩:=aP h2 j y ey
 rw[e1]at e2;cases e2
 exact EJ q1 q2
theorem vU{K:W.Frag}{H:Hp}{xs ys:List V}{t:List (Str×Str)}(h1:Paired (bW K H) xs t)(h2:Paired (bW K H) ys t):∀(j:Nat) x y,xs[j]?=some x->ys[j]?=some y->kD K H 1 x y:=by
 intro j x y ex ey
 obtain⟨w,e1,a,rfl,ha⟩:=aP h1 j x ex
 obtain⟨w',e2,b,rfl,hb⟩:=aP h2 j y ey
 rw[e1]at e2;cases e2
 refine .tup ha hb rfl λi u v eu ev=>?_
 rw[eu]at ev;cases ev
 have hi2:i<2:=(YG.mp eu).1
 match i,hi2,eu with
 | 0,_,eu=>cases eu;exact .flat rfl rfl (tw rfl)
 | 1,_,eu=>cases eu;exact .flat rfl rfl (tw rfl)
def jT(acc:List Nat)(c:Nat):List Nat:=if away ⟨acc.toArray⟩ c=true then acc++[c] else acc
def g5(l:List Nat):List Nat:=l.foldl jT []
theorem tR(l:List Nat)(c:Nat):g5 (l++[c])=jT (g5 l) c:=by unfold g5;rw[Zt];rfl
theorem vV(l:List Nat):(g5 l).length<=l.length:=by
 have key:∀(l acc:List Nat),(l.foldl jT acc).length<=acc.length+l.length:=by
  intro l
  induction l with
  |nil=>intro acc;exact YB _
  |cons c l ih =>
   intro acc
   rw[Zw,YY]
   have h1:=ih (jT acc c)
   have h2:(jT acc c).length<=acc.length+1:=by
    unfold jT
    split
    ·rw[YE];exact YB _
    ·omega
   omega
 have:=key l []
 simpa [g5]using this
def iH(z:Str):Str:=⟨(g5 z.cps.toList).toArray⟩
theorem pX(z:Str):(iH z).length<=z.length:=by
 show(g5 z.cps.toList).toArray.size<=_
 rw[YH]
 refine YU (vV _) ?_
 rw[YX];exact YB _
def g6(p q f:Str)(b1 b2 b3 b4:Bool)(w u:Str)(c:Nat):Option (Str×Str×Str):=match bf p q f b1 b2 b3 b4 w u c with
 | .go k w' u'=>if dY f w' u'=true then some (k,w',u') else none
 | .nH _=>none
def O9(K:W.Frag)(x:Option (Str×Str×Str))(H:Hp)(v:V):Prop:=match x with
 |none=>v=.non
 |some (k,w,u)=>∃a b,v=.ref a/\bU K H a [.str k,.ref b]/\bU K H b [.str w,.str u]
def m9(ts:List (Str×Str))(n:Nat)(k s:Str):Option Nat:=if aZ k ("skip":Str)=true then some n else if ts[n]?=some (k,if aZ k ("put":Str)=true then s else Str.ofString "") then some (n+1) else none
def Pa(x:Option Nat):V:=match x with
 |none=>.non
 |some n=>.int n
abbrev aV:=(Str×Str)×Nat
def cE(K:W.Frag)(H:Hp)(m:aV)(v:V):Prop:=∃b s,v=.ref b/\bU K H b [.ref s,.int m.2]/\bU K H s [.str m.1.1,.str m.1.2]
theorem cE.mono{K:W.Frag}{H H':Hp}{m:aV}{v:V}(e:aF H H')(h:cE K H m v):cE K H' m v:=by
 obtain⟨b,s,e1,e2,e3⟩:=h
 exact⟨b,s,e1,aL e e2,aL e e3⟩
def oh(p q f:Str)(b1 b2 b3 b4:Bool)(ts:List (Str×Str))(m:aV)(c:Nat):Option aV:=match g6 p q f b1 b2 b3 b4 m.1.1 m.1.2 c with
 |none=>none
 |some (k,w,u)=>(match m9 ts m.2 k (sg c) with
  |none=>none
  |some n=>some ((w,u),n))
def nc(K:W.Frag)(x:Option aV)(H:Hp)(v:V):Prop:=match x with
 |none=>v=.non
 |some m=>cE K H m v
def RQ(y l:Addr):List (Str×V):=[("turn",.ref y),("tokens",.ref l)]
structure Cs(K:W.Frag)(C CT CM:Addr)(H:Hp)(m:Addr)(p q f:Str)(b1 b2 b3 b4:Bool)(ts:List (Str×Str)):Prop where
 ok:∃dm y l ys,H m=some (.ins CM dm (RQ y l))/\Tn C CT H y p q f b1 b2 b3 b4/\H l=some (.lst ys)/\Paired (bW K H) ys ts
theorem eN{K:W.Frag}{H H':Hp}(s:aF H H'):∀{ys:List V}{ts:List (Str×Str)},Paired (bW K H) ys ts->Paired (bW K H') ys ts
 |_,_,.nil=>.nil
 |_,_,.cons a r=>.cons (a.mono s) (eN s r)
theorem Cs.mono{K:W.Frag}{C CT CM:Addr}{H H':Hp}{m:Addr}{p q f:Str}{b1 b2 b3 b4:Bool}{ts:List (Str×Str)}(s:aF H H')(h:Cs K C CT CM H m p q f b1 b2 b3 b4 ts):Cs K C CT CM H' m p q f b1 b2 b3 b4 ts:=by
 obtain⟨dm,y,l,ys,e1,e2,e3,e4⟩:=h.ok
 exact⟨dm,y,l,ys,s _ _ e1,e2.mono s,s _ _ e3,eN s e4⟩
theorem G0{K:W.Frag}{H:Hp}{m a C dm:Addr}{fs:List (Str×V)}{xs:List V}{o:HO}(hm:H m=some (.ins C dm fs))(h:bU K H a xs):bU K (upd H m o) a xs:=by
 rcases h with (h|⟨ob,h⟩)|h
 ·exact .inl (.inl ((az (jg h hm (by intro z;cases z))).trans h))
 ·exact .inl (.inr ⟨ob,(az (jg h hm (by intro z;cases z))).trans h⟩)
 ·exact .inr h
theorem g7{K:W.Frag}{H:Hp}{m C dm:Addr}{fs:List (Str×V)}{o:HO}(hm:H m=some (.ins C dm fs)):∀{ys:List V}{ts:List (Str×Str)},Paired (bW K H) ys ts->Paired (bW K (upd H m o)) ys ts
 |_,_,.nil=>.nil
 |_,_,.cons ⟨a,e1,e2⟩ r=>.cons ⟨a,e1,G0 hm e2⟩ (g7 hm r)
theorem Tn.off{C CT:Addr}{H:Hp}{y m:Addr}{p q f:Str}{b1 b2 b3 b4:Bool}{o o':HO}(hm:H m=some o')(n1:∀d fs,o'≠.ins CT d (O6 fs))(n2:∀d,o'≠.ins C d (yu p q f b1 b2 b3 b4))(h:Tn C CT H y p q f b1 b2 b3 b4):Tn C CT (upd H m o) y p q f b1 b2 b3 b4:=by
 obtain⟨dy,d,dd,e1,e2⟩:=h.ok
 exact⟨dy,d,dd,(az (λq=>by rw[q,hm]at e1;exact n1 _ _ (Y0 e1))).trans e1,(az (λq=>by rw[q,hm]at e2;exact n2 _ (Y0 e2))).trans e2⟩
theorem Cs.off{K:W.Frag}{C CT CM CW:Addr}{H:Hp}{m z dz:Addr}{fs:List (Str×V)}{p q f:Str}{b1 b2 b3 b4:Bool}{ts:List (Str×Str)}{o:HO}(hz:H z=some (.ins CW dz fs))(n0:∀y l,fs≠RQ y l)(n1:∀d,fs≠O6 d)(n2:fs≠yu p q f b1 b2 b3 b4)(h:Cs K C CT CM H m p q f b1 b2 b3 b4 ts):Cs K C CT CM (upd H z o) m p q f b1 b2 b3 b4 ts:=by
 obtain⟨dm,y,l,ys,e1,e2,e3,e4⟩:=h.ok
 refine⟨dm,y,l,ys,(az (λq=>?_)).trans e1,Tn.off hz (λd fs q=>?_) (λd q=>?_) e2,(az (λq=>by rw[q,hz]at e3;cases e3)).trans e3,g7 hz e4⟩
 ·rw[q,hz]at e1;injection e1 with e1;injection e1 with a b c;exact n0 _ _ c
 ·injection q with a b c;exact n1 _ c
 ·injection q with a b c;exact n2 c
theorem vW{H:Hp}{x dx:Addr}{o:HO}(hx:H x=none)(hdx:H dx=none):aF H (upd (upd H dx (.own x)) x o):=λb o' e=>by
 rw[az (aT e hx),az (aT e hdx)];exact e
def Ud(m l:Addr)(z:Str):List (Str×V):=[("marker",.ref m),("tokens",.ref l),("usual",.str z)]
def Dk(p q f:Str):Str:=iH ((p++q)++f)++Str.ofString "\n"++Str.ofString " "
structure JH(K:W.Frag)(C CT CM CW:Addr)(H:Hp)(x:Addr)(p q f:Str)(b1 b2 b3 b4:Bool)(ts:List (Str×Str)):Prop where
 ok:∃dx m l ys,H x=some (.ins CW dx (Ud m l (Dk p q f)))/\Cs K C CT CM H m p q f b1 b2 b3 b4 ts/\H l=some (.lst ys)/\Paired (bW K H) ys ts
theorem JH.mono{K:W.Frag}{C CT CM CW:Addr}{H H':Hp}{x:Addr}{p q f:Str}{b1 b2 b3 b4:Bool}{ts:List (Str×Str)}(s:aF H H')(h:JH K C CT CM CW H x p q f b1 b2 b3 b4 ts):JH K C CT CM CW H' x p q f b1 b2 b3 b4 ts:=by
 obtain⟨dx,m,l,ys,e1,e2,e3,e4⟩:=h.ok
 exact⟨dx,m,l,ys,s _ _ e1,e2.mono s,s _ _ e3,eN s e4⟩
def cL(p q f:Str)(b1 b2 b3 b4:Bool)(ts:List (Str×Str))(m:aV):List (Nat×aV):=match ts[m.2]? with
 |none=>[]
 |some t=>(iH (Dk p q f++t.2)).cps.toList.filterMap λc=>(oh p q f b1 b2 b3 b4 ts m c).map λm'=>(c,m')
theorem cE.but{K:W.Frag}{H:Hp}{m:aV}{v:V}{l:Addr}{ws:List V}{o:HO}(hl:H l=some (.lst ws))(h:cE K H m v):cE K (upd H l o) m v:=by
 obtain⟨b,s,e1,e2,e3⟩:=h
 exact⟨b,s,e1,jD hl e2,jD hl e3⟩
theorem nc.mono{K:W.Frag}{x:Option aV}{H H':Hp}{v:V}(s:aF H H')(h:nc K x H v):nc K x H' v:=by
 cases x with
 |none=>exact h
 |some m=>exact cE.mono s h
theorem nc.but{K:W.Frag}{x:Option aV}{H:Hp}{v:V}{l:Addr}{ws:List V}{o:HO}(hl:H l=some (.lst ws))(h:nc K x H v):nc K x (upd H l o) v:=by
 cases x with
 |none=>exact h
 |some m=>exact cE.but hl h
abbrev qV(K:W.Frag)(F:Nat->Option aV)(H:Hp):List V->List Nat->Prop:=Paired λv c=>∃t w,v=.ref t/\H t=some (.tup [.str (sg c),w])/\nc K (F c) H w
theorem qV.mono{K:W.Frag}{F:Nat->Option aV}{H H':Hp}(s:aF H H'):∀{vs:List V}{cs:List Nat},qV K F H vs cs->qV K F H' vs cs
 |_,_,.nil=>.nil
 |_,_,.cons ⟨t,w,e,h,q⟩ r=>.cons ⟨t,w,e,s _ _ h,nc.mono s q⟩ (qV.mono s r)
theorem qV.but{K:W.Frag}{F:Nat->Option aV}{H:Hp}{l:Addr}{ws:List V}{o:HO}(hl:H l=some (.lst ws)):∀{vs:List V}{cs:List Nat},qV K F H vs cs->qV K F (upd H l o) vs cs
 |_,_,.nil=>.nil
 |_,_,.cons ⟨t,w,e,h,q⟩ r=>.cons ⟨t,w,e,(az (jg h hl (by intro z;cases z))).trans h,nc.but hl q⟩ (qV.but hl r)
abbrev kM(K:W.Frag)(H:Hp):List V->List (Nat×aV)->Prop:=Paired λv e=>∃t w,v=.ref t/\H t=some (.tup [.str (sg e.1),w])/\cE K H e.2 w
theorem kM.mono{K:W.Frag}{H H':Hp}(s:aF H H'):∀{vs:List V}{es:List (Nat×aV)},kM K H vs es->kM K H' vs es
 |_,_,.nil=>.nil
 |_,_,.cons ⟨t,w,e,h,q⟩ r=>.cons ⟨t,w,e,s _ _ h,q.mono s⟩ (kM.mono s r)
theorem kM.but{K:W.Frag}{H:Hp}{l:Addr}{ws:List V}{o:HO}(hl:H l=some (.lst ws)):∀{vs:List V}{es:List (Nat×aV)},kM K H vs es->kM K (upd H l o) vs es
 |_,_,.nil=>.nil
 |_,_,.cons ⟨t,w,e,h,q⟩ r=>.cons ⟨t,w,e,(az (jg h hl (by intro z;cases z))).trans h,q.but hl⟩ (kM.but hl r)
abbrev Cm:=List (aV×Option (aV×Nat))
def cz(cm:Cm)(m:aV):Bool:=cm.any λe=>decide (e.1=m)
def eX(p:aV)(acc:Cm×List aV)(e:Nat×aV):Cm×List aV:=if cz acc.1 e.2=true then acc else (acc.1++[(e.2,some (p,e.1))],acc.2++[e.2])
def jb(led:aV->List (Nat×aV))(acc:Cm×List aV)(p:aV):Cm×List aV:=(led p).foldl (eX p) acc
def expand(led:aV->List (Nat×aV))(cm:Cm)(bE:List aV):Cm×List aV:=bE.foldl (jb led) (cm,[])
inductive xj(good:aV->Bool)(led:aV->List (Nat×aV)):Cm->List aV->Option aV->Cm->Prop where
 |stop {cm:Cm}:xj good led cm [] none cm
 |found {cm:Cm}{bE:List aV}{m:aV}:bE.find? good=some m->xj good led cm bE (some m) cm
 |go {cm zW:Cm}{bE:List aV}{r:Option aV}:bE≠[]->bE.find? good=none->xj good led (expand led cm bE).1 (expand led cm bE).2 r zW->xj good led cm bE r zW
def oi(K:W.Frag)(x:Option (aV×Nat))(H:Hp)(v:V):Prop:=match x with
 |none=>v=.non
 |some (m,c)=>∃t w,v=.ref t/\bU K H t [w,.str (sg c)]/\cE K H m w
abbrev xm(K:W.Frag)(H:Hp):List (N3 (Lf⊕List Lf))->Cm->Prop:=Paired λe p=>e.1=bS p.1/\cE K H p.1 (.ref e.2.1)/\oi K p.2 H e.2.2
structure cS(P:Program)(w:World)(K:W.Frag)(H:Hp)(a:Addr)(cm:Cm):Prop where
 ok:∃kvs,Nd (YM P w K) (bG P w) H a kvs/\xm K H kvs cm
theorem cE.keep{K:W.Frag}{H H':Hp}{m:aV}{v:V}(t:∀b xs,bU K H b xs->bU K H' b xs)(h:cE K H m v):cE K H' m v:=by
 obtain⟨b,s,e1,e2,e3⟩:=h
 exact⟨b,s,e1,t _ _ e2,t _ _ e3⟩
theorem oi.keep{K:W.Frag}{H H':Hp}{x:Option (aV×Nat)}{v:V}(t:∀b xs,bU K H b xs->bU K H' b xs)(h:oi K x H v):oi K x H' v:=by
 cases x with
 |none=>exact h
 |some mc=>obtain⟨t1,w1,e1,e2,e3⟩:=h;exact⟨t1,w1,e1,t _ _ e2,e3.keep t⟩
theorem xm.keep{K:W.Frag}{H H':Hp}(t:∀b xs,bU K H b xs->bU K H' b xs):∀{kvs:List (N3 (Lf⊕List Lf))}{cm:Cm},xm K H kvs cm->xm K H' kvs cm
 |_,_,.nil=>.nil
 |_,_,.cons a r=>.cons ⟨a.1,a.2.1.keep t,a.2.2.keep t⟩ (xm.keep t r)
theorem cS.mono{P:Program}{w:World}{K:W.Frag}{H H':Hp}{a:Addr}{cm:Cm}(s:aF H H')(h:cS P w K H a cm):cS P w K H' a cm:=by
 obtain⟨kvs,d,r⟩:=h.ok
 exact⟨kvs,d.mono s,r.keep λb xs q=>aL s q⟩
theorem cS.but{P:Program}{w:World}{K:W.Frag}{H:Hp}{a l:Addr}{cm:Cm}{ws:List V}{o:HO}(hl:H l=some (.lst ws))(h:cS P w K H a cm):cS P w K (upd H l o) a cm:=by
 obtain⟨kvs,d,r⟩:=h.ok
 have t:∀b xs,bU K H b xs->bU K (upd H l o) b xs:=λb xs q=>jD hl q
 exact⟨kvs,⟨(az (jg d.ob hl (λq=>nomatch q))).trans d.ob,λe he=>(d.keys e he).keep t⟩,r.keep t⟩
theorem tS{K:W.Frag}{H:Hp}{m:aV}:∀{kvs:List (N3 (Lf⊕List Lf))}{cm:Cm},xm K H kvs cm->(valN kvs (bS m)).isSome=cz cm m
 |_,_,.nil=>rfl
 |e::kvs,p::cm,.cons a r=>by
  have ih:=tS (m:=m) r
  unfold valN cz at ih⊢
  rw[ZL,List.any_cons,a.1]
  by_cases q:p.1=m
  ·rw[YJ q,YJ (by rw[q])];rfl
  ·rw[YK q,YK (λz=>q (pO.mp z)),Bool.false_or];exact ih
theorem EK{K:W.Frag}{H:Hp}{kvs:List (N3 (Lf⊕List Lf))}{cm:Cm}(h:xm K H kvs cm):kvs.length=cm.length:=ZO h
theorem EL{cm:Cm}{m:aV}:cz cm m=true↔m∈cm.map (·.1):=by
 unfold cz
 rw[List.any_eq_true,Zx]
 constructor
 ·rintro⟨e,he,q⟩;exact⟨e,he,Zg q⟩
 ·rintro⟨e,he,q⟩;exact⟨e,he,YJ q⟩
structure Iz(U:List aV)(cm:Cm):Prop where
 nd:(cm.map (·.1)).Nodup
 sub:∀m∈cm.map (·.1),m∈U
theorem Iz.len{U:List aV}{cm:Cm}(h:Iz U cm):cm.length<=U.length:=by
 have:=List.Nodup.length_le_of_subset h.nd (λm hm=>h.sub m hm)
 rw[YC]at this
 exact this
theorem G3{U:List aV}{p:aV}{acc:Cm×List aV}{e:Nat×aV}(h:Iz U acc.1)(he:e.2∈U):Iz U (eX p acc e).1:=by
 unfold eX
 by_cases q:cz acc.1 e.2=true
 ·rw[YA q];exact h
 ·rw[Yz q]
  refine⟨?_,λm hm=>?_⟩
  ·rw[YW,List.nodup_append]
   refine⟨h.nd,by simp,λa ha b hb z=>q (EL.mpr ?_)⟩
   rw[YF.mp hb]at z
   have z:a=e.2:=z
   rw[z]at ha;exact ha
  ·rw[YW]at hm
   rcases Y3.mp hm with hm|hm
   ·exact h.sub m hm
   ·rw[YF.mp hm];exact he
theorem EM(p:aV)(acc:Cm×List aV)(e:Nat×aV):(eX p acc e).1.length+acc.2.length=acc.1.length+(eX p acc e).2.length:=by
 unfold eX
 split
 ·rfl
 ·rw[YE,YE];show acc.1.length+1+_=_+(_+1);omega
theorem Nd.one{P:Program}{w:World}{K:W.Frag}{H:Hp}{a b:Addr}{k:List (Lf⊕List Lf)}{v:V}(h:H a=some (dN (ZM P w) (bG P w) a []))(e:pN (YM P w K) H k b):Nd (YM P w K) (bG P w) (upd H a (dN (ZM P w) (bG P w) a [(k,b,v)])) a [(k,b,v)]:=by
 refine⟨aj,λp hp=>?_⟩
 rw[YF.mp hp]
 exact e.keep (tG h)
theorem cS.one{P:Program}{w:World}{K:W.Frag}{H:Hp}{a b:Addr}{m:aV}(h:H a=some (dN (ZM P w) (bG P w) a []))(hm:cE K H m (.ref b)):cS P w K (upd H a (dN (ZM P w) (bG P w) a [(bS m,b,.non)])) a [(m,none)]:=by
 obtain⟨b',s,e1,e2,e3⟩:=hm
 cases e1
 have t:=tG (F:=K) h (o:=dN (ZM P w) (bG P w) a [(bS m,b,.non)])
 exact⟨_,Nd.one h (iD e2 e3),.cons ⟨O,⟨b,s,O,t _ _ e2,t _ _ e3⟩,O⟩ .nil⟩
theorem cS.put{P:Program}{w:World}{K:W.Frag}{H:Hp}{a b:Addr}{m:aV}{cm:Cm}{kvs:List (N3 (Lf⊕List Lf))}{x:Option (aV×Nat)}{v:V}(d:Nd (YM P w K) (bG P w) H a kvs)(r:xm K H kvs cm)(hm:cE K H m (.ref b))(hn:cz cm m=false)(hv:oi K x H v):cS P w K (upd H a (dN (ZM P w) (bG P w) a (putN kvs (bS m) b v))) a (cm++[(m,x)]):=by
 obtain⟨b',s,e1,e2,e3⟩:=id hm
 cases e1
 have t:=tG (F:=K) d.ob (o:=dN (ZM P w) (bG P w) a (putN kvs (bS m) b v))
 refine⟨_,d.put (iD e2 e3),?_⟩
 have q:=tS (m:=m) r
 rw[hn]at q
 have hv0:valN kvs (bS m)=none:=by
  cases z:valN kvs (bS m) with
  |none=>rfl
  |some y=>rw[z]at q;cases q
 rw[yQ hv0]
 rw[yQ hv0]at t
 exact dG (r.keep t) (.cons ⟨rfl,hm.keep t,hv.keep t⟩ .nil)
theorem kM.keep{K:W.Frag}{H H':Hp}(t1:∀b xs,H b=some (.tup xs)->H' b=some (.tup xs))(t:∀b xs,bU K H b xs->bU K H' b xs):∀{vs:List V}{es:List (Nat×aV)},kM K H vs es->kM K H' vs es
 |_,_,.nil=>.nil
 |_,_,.cons ⟨x,w,e,h,q⟩ r=>.cons ⟨x,w,e,t1 _ _ h,q.keep t⟩ (kM.keep t1 t r)
abbrev tT(K:W.Frag)(H:Hp):List V->List aV->Prop:=Paired λv m=>cE K H m v
theorem tT.keep{K:W.Frag}{H H':Hp}(t:∀b xs,bU K H b xs->bU K H' b xs):∀{vs:List V}{ms:List aV},tT K H vs ms->tT K H' vs ms
 |_,_,.nil=>.nil
 |_,_,.cons a r=>.cons (a.keep t) (tT.keep t r)
theorem G6{α:Type}{f:α->Bool}{l:List α}{i:Nat}{m:α}(hi:l[i]?=some m)(hg:f m=true)(hb:∀m'∈l.take i,f m'=false):l.find? f=some m:=by
 have e:l=l.take i++m::l.drop (i+1):=by
  obtain⟨h1,h2⟩:=YG.mp hi
  rw[←h2,←List.drop_eq_getElem_cons h1,List.take_append_drop]
 rw[e,List.find?_append,List.find?_eq_none.mpr (λx hx=>by rw[hb x hx];decide),ZL,hg]
 rfl
theorem G7{α:Type}{f:α->Bool}{l:List α}(hb:∀m'∈l,f m'=false):l.find? f=none:=List.find?_eq_none.mpr λx hx=>by rw[hb x hx];decide
theorem tU{p:aV}:∀(es:List (Nat×aV))(acc:Cm×List aV),(es.foldl (eX p) acc).1.length+acc.2.length=acc.1.length+(es.foldl (eX p) acc).2.length
 |[],_=>rfl
 |e::es,acc=>by
  have h1:=EM p acc e
  have h2:=tU (p:=p) es (eX p acc e)
  rw[Zw];omega
theorem tV{led:aV->List (Nat×aV)}:∀(ms:List aV)(acc:Cm×List aV),(ms.foldl (jb led) acc).1.length+acc.2.length=acc.1.length+(ms.foldl (jb led) acc).2.length
 |[],_=>rfl
 |m::ms,acc=>by
  have h1:=tU (p:=m) (led m) acc
  have h2:=tV (led:=led) ms (jb led acc m)
  rw[Zw]
  unfold jb at h2⊢
  omega
def m0:aV:=((Str.ofString "row",("":Str)),0)
def BD(ts:List (Str×Str))(m:aV):Bool:=decide (m=((Str.ofString "row",("":Str)),ts.length))
def tW(cm:Cm)(m:aV):Option (Option (aV×Nat)):=(cm.find? λe=>decide (e.1=m)).map (·.2)
inductive oj(cm:Cm):Option (aV×Nat)->List Nat->Prop where
 |nil:oj cm none []
 |cons {m:aV}{c:Nat}{x:Option (aV×Nat)}{r:List Nat}:tW cm m=some x->oj cm x r->oj cm (some (m,c)) (c::r)
theorem tX{K:W.Frag}{H:Hp}{m:aV}{x:Option (aV×Nat)}:∀{kvs:List (N3 (Lf⊕List Lf))}{cm:Cm},xm K H kvs cm->tW cm m=some x->∃v,valN kvs (bS m)=some v/\oi K x H v
 |_,_,.nil,h=>by cases h
 |e::kvs,p::cm,.cons a r,h=>by
  unfold tW at h
  unfold valN
  rw[ZL]at h⊢
  rw[a.1]
  by_cases q:p.1=m
  ·rw[YJ q]at h
   rw[YJ (by rw[q])]
   cases h
   exact⟨_,O,a.2.2⟩
  ·rw[YK q]at h
   rw[YK (λz=>q (pO.mp z))]
   exact tX r h
theorem BE:∀(xs:List Nat),((xs.map sg).map (·.length)).sum=xs.length
 |[]=>rfl
 |x::xs=>by rw[Zl,Zl,Zy,BE xs,fH,YY];omega
inductive fj(led:aV->List (Nat×aV))(a:aV):List Nat->aV->Prop where
 |nil:fj led a [] a
 |snoc {xs:List Nat}{p q:aV}{c:Nat}:fj led a xs p->(c,q)∈led p->fj led a (xs++[c]) q
theorem tY{cm l:Cm}{m:aV}{x:Option (aV×Nat)}(h:tW cm m=some x):tW (cm++l) m=some x:=by
 unfold tW at h⊢
 rw[List.find?_append]
 cases e:cm.find? λe=>decide (e.1=m) with
 |none=>rw[e]at h;cases h
 |some y=>rw[e]at h;exact h
theorem EN{cm:Cm}{m:aV}{x:Option (aV×Nat)}(h:cz cm m=false):tW (cm++[(m,x)]) m=some x:=by
 unfold tW
 rw[List.find?_append,List.find?_eq_none.mpr,ZL,YJ rfl]
 ·rfl
 ·intro e he q
  have z:cz cm m=true:=List.any_eq_true.mpr ⟨e,he,q⟩
  rw[h]at z;cases z
theorem oj.app{cm l:Cm}{x:Option (aV×Nat)}{xs:List Nat}(h:oj cm x xs):oj (cm++l) x xs:=by
 induction h with
 |nil=>exact .nil
 |cons e _ ih=>exact .cons (tY e) ih
theorem kN{cm l:Cm}{m:aV}:cz (cm++l) m=(cz cm m||cz l m):=List.any_append ..
theorem g8{m q:aV}{x:Option (aV×Nat)}:cz [(q,x)] m=true↔m=q:=by
 unfold cz
 rw[List.any_cons,List.any_nil,Bool.or_false]
 exact⟨λh=>(Zg h).symm,λh=>YJ h.symm⟩
def g9(led:aV->List (Nat×aV))(a:aV)(cm:Cm)(m:aV)(n:Nat):Prop:=∃x xs,tW cm m=some x/\oj cm x xs/\fj led a xs.reverse m/\xs.length=n
theorem g9.app{led:aV->List (Nat×aV)}{a m:aV}{cm l:Cm}{n:Nat}(h:g9 led a cm m n):g9 led a (cm++l) m n:=by
 obtain⟨x,xs,h1,h2,h3,h4⟩:=h
 exact⟨x,xs,tY h1,h2.app,h3,h4⟩
section
variable{good:aV->Bool}{led:aV->List (Nat×aV)}{a:aV}
structure Mid(led:aV->List (Nat×aV))(a:aV)(cm:Cm)(k:Nat)(acc:Cm×List aV):Prop where
 pre:∃l,acc.1=cm++l
 told:∀m,cz acc.1 m=true->∃n,n<=k+1/\g9 led a acc.1 m n
 new:∀m∈acc.2,g9 led a acc.1 m (k+1)/\cz acc.1 m=true
 old:∀m,cz acc.1 m=true->cz cm m=true\/m∈acc.2
theorem Mid.vis{cm:Cm}{k:Nat}{acc:Cm×List aV}{p:aV}{e:Nat×aV}(h:Mid led a cm k acc)(hp:g9 led a acc.1 p k)(he:e∈led p):Mid led a cm k (eX p acc e)/\cz (eX p acc e).1 e.2=true/\(∃l,(eX p acc e).1=acc.1++l):=by
 unfold eX
 cases hh:cz acc.1 e.2 with
 |true=>rw[YA rfl];exact⟨h,hh,[],(Ze _).symm⟩
 |false =>
  rw[Yz (by decide)]
  obtain⟨x,xs,h1,h2,h3,h4⟩:=hp
  have hnew:g9 led a (acc.1++[(e.2,some (p,e.1))]) e.2 (k+1):=by
   refine⟨some (p,e.1),e.1::xs,EN hh,.cons (tY h1) h2.app,?_,by rw[YY,h4]⟩
   rw[List.reverse_cons]
   exact .snoc h3 he
  have hhas:cz (acc.1++[(e.2,some (p,e.1))]) e.2=true:=by rw[kN,g8.mpr rfl,Bool.or_true]
  refine⟨⟨?_,λm hm=>?_,λm hm=>?_,λm hm=>?_⟩,hhas,_,O⟩
  ·obtain⟨l,q⟩:=h.pre
   exact⟨l++[(e.2,some (p,e.1))],by show acc.1++_=_;rw[q,Y8]⟩
  ·have hm:cz (acc.1++[(e.2,some (p,e.1))]) m=true:=hm
   rw[kN,Bool.or_eq_true]at hm
   rcases hm with z|z
   ·obtain⟨n,hn,t⟩:=h.told m z
    exact⟨n,hn,t.app⟩
   ·rw[g8]at z;subst z
    exact⟨_,YB _,hnew⟩
  ·rcases Y3.mp hm with z|z
   ·obtain⟨t,u⟩:=h.new m z
    exact⟨t.app,by show cz (acc.1++_) m=true;rw[kN,u];rfl⟩
   ·rw[YF.mp z];exact⟨hnew,hhas⟩
  ·have hm:cz (acc.1++[(e.2,some (p,e.1))]) m=true:=hm
   rw[kN,Bool.or_eq_true]at hm
   rcases hm with z|z
   ·rcases h.old m z with y|y
    ·exact .inl y
    ·exact .inr (Zp _ y)
   ·rw[g8]at z;subst z
    exact .inr (Y4 _ (YF.mpr rfl))
theorem om{cm l:Cm}{m:aV}(h:cz cm m=true):cz (cm++l) m=true:=by rw[kN,h];rfl
theorem Mid.Mw{cm:Cm}{k:Nat}{p:aV}:∀{es:List (Nat×aV)}{acc:Cm×List aV},Mid led a cm k acc->g9 led a acc.1 p k->(∀e∈es,e∈led p)->Mid led a cm k (es.foldl (eX p) acc)/\(∀e∈es,cz (es.foldl (eX p) acc).1 e.2=true)/\∃l,(es.foldl (eX p) acc).1=acc.1++l
 |[],acc,h,_,_=>⟨h,(λ_ z=>nomatch z),[],(Ze _).symm⟩
 |e::es,acc,h,hp,he=>by
  obtain⟨h1,h2,l,h3⟩:=h.vis hp (he e (Y6 ..))
  have hp1:g9 led a (eX p acc e).1 p k:=by rw[h3];exact hp.app
  obtain⟨g1,g2,l',g3⟩:=Mid.Mw h1 hp1 λe' z=>he e' (YS _ z)
  rw[Zw]
  refine⟨g1,λe' z=>?_,l++l',by rw[g3,h3,Y8]⟩
  rcases Y7.mp z with y|y
  ·subst y;rw[g3];exact om h2
  ·exact g2 e' y
theorem Mid.Mx{cm:Cm}{k:Nat}:∀{ms:List aV}{acc:Cm×List aV},Mid led a cm k acc->(∀p∈ms,g9 led a acc.1 p k)->Mid led a cm k (ms.foldl (jb led) acc)/\(∀p∈ms,∀e∈led p,cz (ms.foldl (jb led) acc).1 e.2=true)/\∃l,(ms.foldl (jb led) acc).1=acc.1++l
 |[],acc,h,_=>⟨h,(λ_ z=>nomatch z),[],(Ze _).symm⟩
 |p::ms,acc,h,hp=>by
  obtain⟨h1,h2,l,h3⟩:=h.Mw (p:=p) (es:=led p) (hp p (Y6 ..)) λe z=>z
  have h1:Mid led a cm k (jb led acc p):=h1
  have h3:(jb led acc p).1=acc.1++l:=h3
  have h2:∀e∈led p,cz (jb led acc p).1 e.2=true:=h2
  obtain⟨g1,g2,l',g3⟩:=Mid.Mx h1 λp' z=>by rw[h3];exact(hp p' (YS _ z)).app
  rw[Zw]
  refine⟨g1,λp' z e' ze=>?_,l++l',by rw[g3,h3,Y8]⟩
  rcases Y7.mp z with y|y
  ·subst y;rw[g3];exact om (h2 e' ze)
  ·exact g2 p' y e' ze
structure G8(good:aV->Bool)(led:aV->List (Nat×aV))(a:aV)(cm:Cm)(bE:List aV)(k:Nat):Prop where
 told:∀m,cz cm m=true->∃n,n<=k/\g9 led a cm m n
 RS:∀m∈bE,g9 led a cm m k/\cz cm m=true
 all:∀ys m,fj led a ys m->ys.length<=k->cz cm m=true
 shut:∀p,cz cm p=true->p∉bE->∀e∈led p,cz cm e.2=true
 bad:∀p,cz cm p=true->p∉bE->good p=false
 less:∀ys m,fj led a ys m->ys.length<k->good m=false
theorem G8.go{cm:Cm}{bE:List aV}{k:Nat}(h:G8 good led a cm bE k)(hf:bE.find? good=none):G8 good led a (expand led cm bE).1 (expand led cm bE).2 (k+1):=by
 have hm:Mid led a cm k (cm,[]):=⟨⟨[],(Ze _).symm⟩,λm hm=>by obtain⟨n,hn,t⟩:=h.told m hm;exact⟨n,by omega,t⟩,(λ_ z=>nomatch z),λm hm=>.inl hm⟩
 obtain⟨g1,g2,l,g3⟩:=hm.Mx (ms:=bE) λp hp=>(h.RS p hp).1
 have hno:∀m∈bE,good m=false:=λm hm=>by
  have:=List.find?_eq_none.mp hf m hm
  cases e:good m with
  |true=>exact absurd e this
  |false=>rfl
 have hbad:∀p,cz cm p=true->good p=false:=λp hp=>by
  by_cases q:p∈bE
  ·exact hno p q
  ·exact h.bad p hp q
 have IA:∀p,cz cm p=true->∀e∈led p,cz (expand led cm bE).1 e.2=true:=λp hp e he=>by
  by_cases q:p∈bE
  ·exact g2 p q e he
  ·unfold expand;rw[g3];exact om (h.shut p hp q e he)
 refine⟨g1.told,g1.new,λys m hw hl=>?_,λp hp hq e he=>?_,λp hp hq=>?_,λys m hw hl=>?_⟩
 ·cases hw with
  |nil=>unfold expand;rw[g3];exact om (h.all [] a .nil (Zd _))
  |@snoc xs p q c hw1 he =>
   rw[YE]at hl
   exact IA p (h.all xs p hw1 (by simpa using hl)) _ he
 ·rcases g1.old p hp with z|z
  ·exact IA p z e he
  ·exact absurd z hq
 ·rcases g1.old p hp with z|z
  ·exact hbad p z
  ·exact absurd z hq
 ·exact hbad m (h.all ys m hw (by omega))
theorem G8.zero:G8 good led a [(a,none)] [a] 0:=by
 have hv:g9 led a [(a,none)] a 0:=⟨none,[],by unfold tW;rw[ZL,YJ rfl];rfl,.nil,.nil,rfl⟩
 have ha:cz [(a,none)] a=true:=g8.mpr rfl
 refine⟨λm hm=>?_,λm hm=>?_,λys m hw hl=>?_,λp hp hq=>?_,λp hp hq=>?_,λys m hw hl=>absurd hl (Nat.not_lt_zero _)⟩
 ·rw[g8.mp hm];exact⟨0,YB _,hv⟩
 ·rw[YF.mp hm];exact⟨hv,ha⟩
 ·cases hw with
  |nil=>exact ha
  |snoc _ _=>rw[YE]at hl;simp at hl
 ·exact absurd (YF.mpr (g8.mp hp)) hq
 ·exact absurd (YF.mpr (g8.mp hp)) hq
def Mz(good:aV->Bool)(led:aV->List (Nat×aV))(a:aV)(zW:Cm)(r:Option aV):Prop :=
 match r with
 |some m=>good m=true/\∃n,g9 led a zW m n/\∀ys m',fj led a ys m'->good m'=true->n<=ys.length
 |none=>(∀m,cz zW m=true->∃n,g9 led a zW m n)/\∀ys m',fj led a ys m'->cz zW m'=true/\good m'=false
theorem G8.run{cm zW:Cm}{bE:List aV}{r:Option aV}(h:xj good led cm bE r zW):∀{k:Nat},G8 good led a cm bE k->Mz good led a zW r:=by
 induction h with
 |stop =>
  rename_i cm
  intro k L
  have hw:∀ys m',fj led a ys m'->cz cm m'=true:=λys m' hw=>by
   induction hw with
   |nil=>exact L.all [] a .nil (Zd _)
   |snoc _ he ih=>exact L.shut _ ih (λz=>nomatch z) _ he
  exact⟨λm hm=>by obtain⟨n,_,t⟩:=L.told m hm;exact⟨n,t⟩,λys m' q=>⟨hw ys m' q,L.bad m' (hw ys m' q) λz=>nomatch z⟩⟩
 |found hf =>
  intro k L
  have hm:=List.mem_of_find?_eq_some hf
  refine⟨List.find?_some hf,k,(L.RS _ hm).1,λys m' hw hg=>?_⟩
  cases Nat.lt_or_ge ys.length k with
  |inl z=>rw[L.less ys m' hw z]at hg;cases hg
  |inr z=>exact z
 |go _ hf _ ih=>intro k L;exact ih (L.go hf)
theorem G9{cm:Cm}{r:Option aV}(h:xj good led [(a,none)] [a] r cm):Mz good led a cm r:=G8.run h G8.zero
end
structure RT(p q f:Str)(b1 b2 b3 b4:Bool)(ts:List (Str×Str))(U:List aV):Prop where
 len:U.length<=100000
 one:m0∈U
 shut:∀m∈U,m.2<ts.length->∀e∈cL p q f b1 b2 b3 b4 ts m,e.2∈U
 good:∀m∈U,m.2<ts.length\/BD ts m=true
theorem Ct{z:Str}:∀t∈kL z,t.2.length<=1:=λt ht=>by
 obtain⟨k,_,rfl⟩:=Zx.mp ht
 exact YB _
theorem EO{r:List Str}:∀{n:Nat},∀t∈gE r n,t.2.length<=1
 | 0,t,ht=>nomatch ht
 |n+1,t,ht=>by
  rcases Y3.mp ht with z|z
  ·exact EO t z
  ·rcases Y3.mp z with y|y
   ·split at y
    ·cases y
    ·rw[YF.mp y];exact Zd _
   ·exact Ct t y
theorem ER{t:List (List Str)}:∀x∈aR t,x.2.length<=1:=λx hx=>by
 obtain⟨r,_,h⟩:=ZG.mp hx
 rcases Y3.mp h with z|z
 ·exact EO x z
 ·rw[YF.mp z];exact Zd _
def RU(p q f u:Str)(c:Nat)(k w' u':Str):Prop :=
 (k=Str.ofString "skip"/\(gG c f=true\/gG c q=true\/aZ (sg c) u=true\/aZ (sg c) (" ":Str)=true))\/(k=Str.ofString "end"/\aZ (sg c) (Str.ofString "\n")=true/\w'=Str.ofString "row"/\u'=("":Str))\/(k=Str.ofString "part"/\gG c p=true)\/k=("put":Str)
theorem zh{p q f:Str}{b1 b2 b3 b4:Bool}{w u k w' u':Str}{c:Nat}(h:bf p q f b1 b2 b3 b4 w u c=.go k w' u'):RU p q f u c k w' u':=by
 have hB:dh p b3 c=.go k w' u'->RU p q f u c k w' u':=by
  intro h
  unfold dh at h
  repeat' split at h
  all_goals first
   | (cases h;done)
   | (cases h;exact .inr (.inl ⟨rfl,by assumption,rfl,rfl⟩))
   | (cases h;exact .inr (.inr (.inl ⟨rfl,by assumption⟩)))
   | (cases h;exact .inl ⟨rfl,.inr (.inr (.inr (by assumption)))⟩)
 unfold bf at h
 split at h
 ·unfold dg at h
  repeat' split at h
  all_goals first
   | (cases h;done)
   | (cases h;exact .inr (.inr (.inr rfl)))
   | (cases h;exact .inl ⟨rfl,.inl (by assumption)⟩)
   | (cases h;exact .inl ⟨rfl,.inr (.inr (.inl (by assumption)))⟩)
 split at h
 ·unfold gb fP at h
  repeat' split at h
  all_goals first
   | (cases h;done)
   | (cases h;exact .inr (.inr (.inr rfl)))
 split at h
 ·unfold jB at h
  split at h
  ·cases h;exact .inr (.inr (.inr rfl))
  ·exact hB h
 split at h
 ·exact hB h
 unfold mE at h
 split at h
 ·unfold fL at h
  repeat' split at h
  all_goals first
   | (cases h;done)
   | (cases h;exact .inr (.inr (.inr rfl)))
   | (cases h;exact .inr (.inl ⟨rfl,by assumption,rfl,rfl⟩))
   | (cases h;exact .inr (.inr (.inl ⟨rfl,by assumption⟩)))
   | (cases h;exact .inl ⟨rfl,.inl (by assumption)⟩)
 ·unfold dW at h
  repeat' split at h
  all_goals first
   | (cases h;done)
   | (cases h;exact .inr (.inr (.inr rfl)))
   | (cases h;exact .inr (.inl ⟨rfl,by assumption,rfl,rfl⟩))
   | (cases h;exact .inr (.inr (.inl ⟨rfl,by assumption⟩)))
   | (cases h;exact .inl ⟨rfl,.inl (by assumption)⟩)
   | (cases h;exact .inl ⟨rfl,.inr (.inl (by assumption))⟩)
   | (cases h;exact .inl ⟨rfl,.inr (.inr (.inr (by assumption)))⟩)
theorem Cu:¬Str.ofString "skip"=("end":Str):=Az (by decide +kernel)
theorem zj:¬Str.ofString "put"=("end":Str):=Az (by decide +kernel)
theorem vX:¬Str.ofString "part"=("end":Str):=Az (by decide +kernel)
theorem vY{p q f:Str}{b1 b2 b3 b4:Bool}{w u w' u':Str}{c:Nat}(h:bf p q f b1 b2 b3 b4 w u c=.go ("end":Str) w' u'):(w',u')=(Str.ofString "row",("":Str)):=by
 rcases zh h with ⟨z,_⟩|⟨_,_,e1,e2⟩|⟨z,_⟩|z
 ·exact absurd z.symm Cu
 ·rw[e1,e2]
 ·exact absurd z.symm vX
 ·exact absurd z.symm zj
def IB(q:Str):List (Str×Str):=[(Str.ofString "row",("":Str)),(Str.ofString "cell",("":Str)),(Str.ofString "plain",("":Str)),(Str.ofString "behind",("":Str)),(Str.ofString "freed",("":Str))]++q.cps.toList.flatMap λc=>[(Str.ofString "within",sg c),(Str.ofString "doubt",sg c),(Str.ofString "freed",sg c)]
theorem ES{q w u:Str}(h:nV q w u):(w,u)∈IB q:=by
 unfold IB
 rcases h with ⟨rfl,rfl|rfl|rfl|rfl|rfl⟩|⟨d,hd,rfl,rfl|rfl|rfl⟩
 ·exact Zp _ (by simp)
 ·exact Zp _ (by simp)
 ·exact Zp _ (by simp)
 ·exact Zp _ (by simp)
 ·exact Zp _ (by simp)
 ·exact Y4 _ (ZG.mpr ⟨d,hd,by simp⟩)
 ·exact Y4 _ (ZG.mpr ⟨d,hd,by simp⟩)
 ·exact Y4 _ (ZG.mpr ⟨d,hd,by simp⟩)
theorem JI{q:Str}{s:Str×Str}(h:s∈IB q):nV q s.1 s.2:=by
 unfold IB at h
 rcases Y3.mp h with z|z
 ·simp only[Y7,List.not_mem_nil,or_false]at z
  rcases z with rfl|rfl|rfl|rfl|rfl
  ·exact .inl ⟨rfl,.inl rfl⟩
  ·exact .inl ⟨rfl,.inr (.inl rfl)⟩
  ·exact .inl ⟨rfl,.inr (.inr (.inl rfl))⟩
  ·exact .inl ⟨rfl,.inr (.inr (.inr (.inl rfl)))⟩
  ·exact .inl ⟨rfl,.inr (.inr (.inr (.inr rfl)))⟩
 ·obtain⟨d,hd,y⟩:=ZG.mp z
  simp only[Y7,List.not_mem_nil,or_false]at y
  rcases y with rfl|rfl|rfl
  ·exact .inr ⟨d,hd,rfl,.inl rfl⟩
  ·exact .inr ⟨d,hd,rfl,.inr (.inl rfl)⟩
  ·exact .inr ⟨d,hd,rfl,.inr (.inr rfl)⟩
theorem Hf{p q f:Str}(g:Gd p q f):(IB q).length<=11:=by
 have e:∀l:List Nat,(l.flatMap λc=>[(Str.ofString "within",sg c),(Str.ofString "doubt",sg c),(Str.ofString "freed",sg c)]).length=3*l.length:=by
  intro l
  induction l with
  |nil=>rfl
  |cons a l ih=>rw[List.flatMap_cons,YE,ih];show 3+3*l.length=3*(l.length+1);omega
 unfold IB
 rw[YE,e]
 have:q.cps.toList.length<=2:=by rw[YX];exact g.q2
 show 5+_<=11
 omega
def vZ(ts:List (Str×Str)):Prop:=∀n,n+1=ts.length->ts[n]?=some gc
theorem ET{p q f:Str}{b1 b2 b3 b4:Bool}{ts:List (Str×Str)}{m m':aV}{c:Nat}(he:vZ ts)(hm:m.2<ts.length)(h:oh p q f b1 b2 b3 b4 ts m c=some m')(hq:nV q m.1.1 m.1.2):nV q m'.1.1 m'.1.2/\(m'.2<ts.length\/m'=((Str.ofString "row",("":Str)),ts.length)):=by
 unfold oh g6 at h
 cases hs:bf p q f b1 b2 b3 b4 m.1.1 m.1.2 c with
 |nH e=>rw[hs]at h;cases h
 |go k w u =>
  rw[hs]at h
  dsimp only at h
  by_cases hl:dY f w u=true
  ·rw[YA hl]at h
   dsimp only at h
   cases hc:m9 ts m.2 k (sg c) with
   |none=>rw[hc]at h;cases h
   |some n =>
    rw[hc]at h
    cases h
    refine⟨nW hq hs,?_⟩
    unfold m9 at hc
    by_cases RV:aZ k ("skip":Str)=true
    ·rw[YA RV]at hc;cases hc;exact .inl hm
    ·rw[Yz RV]at hc
     by_cases ht:ts[m.2]?=some (k,if aZ k ("put":Str)=true then sg c else Str.ofString "")
     ·rw[YA ht]at hc
      cases hc
      by_cases hz:m.2+1=ts.length
      ·have e:=he _ hz
       rw[e]at ht
       have hk:k=("end":Str):=by injection ht with ht;exact(congrArg Prod.fst ht).symm
       rw[hk]at hs
       have:=vY hs
       exact .inr (by show((w,u),m.2+1)=_;rw[this,hz])
      ·exact .inl (by show m.2+1<_;omega)
     ·rw[Yz ht]at hc;cases hc
  ·rw[Yz hl]at h;cases h
def uL(q:Str)(ts:List (Str×Str)):List aV:=((Str.ofString "row",("":Str)),ts.length)::(IB q).flatMap λs=>(List.range ts.length).map λn=>(s,n)
theorem xo{q:Str}{ts:List (Str×Str)}{m:aV}:m∈uL q ts↔m=((Str.ofString "row",("":Str)),ts.length)\/(m.1∈IB q/\m.2<ts.length):=by
 unfold uL
 rw[Y7,ZG]
 constructor
 ·rintro(e|⟨s,hs,h⟩)
  ·exact .inl e
  ·obtain⟨n,hn,rfl⟩:=Zx.mp h
   exact .inr ⟨hs,List.mem_range.mp hn⟩
 ·rintro(e|⟨h1,h2⟩)
  ·exact .inl e
  ·exact .inr ⟨m.1,h1,Zx.mpr ⟨m.2,List.mem_range.mpr h2,rfl⟩⟩
theorem JJ{p q f:Str}(g:Gd p q f)(ts:List (Str×Str)):(uL q ts).length<=1+11*ts.length:=by
 have e:∀l:List (Str×Str),(l.flatMap λs=>(List.range ts.length).map λn=>(s,n)).length=l.length*ts.length:=by
  intro l
  induction l with
  |nil=>simp
  |cons a l ih=>rw[List.flatMap_cons,YE,ih,YY,YC,ZD,Nat.succ_mul];omega
 unfold uL
 rw[YY,e]
 have:=Nat.mul_le_mul_right ts.length (Hf g)
 omega
theorem BF{p q f:Str}{b1 b2 b3 b4:Bool}{ts:List (Str×Str)}{m:aV}{e:Nat×aV}(h:e∈cL p q f b1 b2 b3 b4 ts m):oh p q f b1 b2 b3 b4 ts m e.1=some e.2:=by
 unfold cL at h
 split at h
 ·cases h
 ·obtain⟨c,_,hc⟩:=List.mem_filterMap.mp h
  cases hm:oh p q f b1 b2 b3 b4 ts m c with
  |none=>rw[hm]at hc;cases hc
  |some m'=>rw[hm]at hc;cases hc;exact hm
theorem Ue{p q f:Str}{b1 b2 b3 b4:Bool}{ts:List (Str×Str)}(g:Gd p q f)(he:vZ ts)(hl:ts.length<=9000):RT p q f b1 b2 b3 b4 ts (uL q ts):=by
 refine⟨YU (JJ g ts) (by omega),?_,λm hm hlt e hE=>?_,λm hm=>?_⟩
 ·rw[xo]
  cases ts with
  |nil=>exact .inl rfl
  |cons a l=>exact .inr ⟨ES (.inl ⟨rfl,.inl rfl⟩),Nat.zero_lt_succ _⟩
 ·have hs:nV q m.1.1 m.1.2:=by
   rcases xo.mp hm with z|z
   ·rw[z]at hlt;exact absurd hlt (ZQ _)
   ·exact JI z.1
  obtain⟨h1,h2⟩:=ET he hlt (BF hE) hs
  rw[xo]
  rcases h2 with z|z
  ·exact .inr ⟨ES h1,z⟩
  ·exact .inl z
 ·rcases xo.mp hm with z|z
  ·exact .inr (YJ z)
  ·exact .inl z.2
theorem oq{a b:Nat}(h:sg a=sg b):a=b:=by
 have e:(sg a).cps.toList=(sg b).cps.toList:=by rw[h]
 exact(List.cons.inj e).1
theorem v9{c:Nat}:∀(l:List Nat)(acc:List Nat),c∈l.foldl jT acc↔c∈acc\/c∈l
 |[],acc=>by simp
 |a::l,acc=>by
  rw[Zw,v9 l]
  unfold jT
  by_cases h:away ⟨acc.toArray⟩ a=true
  ·rw[YA h,Y3,YF,Y7,or_assoc]
  ·rw[Yz h]
   have ha:a∈acc:=by
    by_cases z:a∈acc
    ·exact z
    ·exact absurd ((Ez _ _).mpr (by simpa using z)) h
   rw[Y7]
   constructor
   ·rintro(z|z)
    ·exact .inl z
    ·exact .inr (.inr z)
   ·rintro(z|z|z)
    ·exact .inl z
    ·subst z;exact .inl ha
    ·exact .inr z
theorem wc{c:Nat}{z:Str}:c∈(iH z).cps.toList↔c∈z.cps.toList:=by
 show c∈(g5 z.cps.toList).toArray.toList↔_
 unfold g5
 rw[show((z.cps.toList.foldl jT []).toArray).toList=z.cps.toList.foldl jT []from rfl,v9]
 simp
theorem JK{p q f:Str}{c:Nat}:c∈(Dk p q f).cps.toList↔c∈p.cps.toList\/c∈q.cps.toList\/c∈f.cps.toList\/c=10\/c=32:=by
 unfold Dk
 rw[app_list,app_list,Y3,Y3,wc,app_list,app_list,Y3,Y3]
 have e1:(Str.ofString "\n").cps.toList=[10]:=by decide +kernel
 have e2:(" ":Str).cps.toList=[32]:=by decide +kernel
 rw[e1,e2,YF,YF]
 simp only[or_assoc]
def zX:List Str->List Nat->List (Str×Str)
 |k::ks,c::cs=>(if aZ k ("skip":Str)=true then [] else [(k,if aZ k ("put":Str)=true then sg c else Str.ofString "")])++zX ks cs
 |_,_=>[]
theorem MA{c:Nat}(h:aZ (sg c) (Str.ofString "\n")=true):c=10:=oq ((ja h).trans (by decide +kernel))
theorem MB{c:Nat}(h:aZ (sg c) (" ":Str)=true):c=32:=oq ((ja h).trans (by decide +kernel))
theorem tried{p q f:Str}{b1 b2 b3 b4:Bool}{ts:List (Str×Str)}{w u k w' u':Str}{c n n':Nat}(hq:nV q w u)(hs:bf p q f b1 b2 b3 b4 w u c=.go k w' u')(hl:dY f w' u'=true)(hn:n<ts.length)(hc:m9 ts n k (sg c)=some n'):(c,((w',u'),n'))∈cL p q f b1 b2 b3 b4 ts ((w,u),n):=by
 have hm:oh p q f b1 b2 b3 b4 ts ((w,u),n) c=some ((w',u'),n'):=by
  unfold oh g6
  dsimp only
  rw[hs]
  dsimp only
  rw[YA hl]
  dsimp only
  rw[hc]
 unfold cL
 obtain⟨t,ht⟩:∃t,ts[n]?=some t:=⟨ts[n],YV hn⟩
 dsimp only
 rw[ht]
 refine List.mem_filterMap.mpr ⟨c,?_,by rw[hm];rfl⟩
 rw[wc,app_list,Y3,JK]
 rcases zh hs with ⟨e,z⟩|⟨e,z,_⟩|⟨e,z⟩|e
 ·rcases z with z|z|z|z
  ·exact .inl (.inr (.inr (.inl (EB z))))
  ·exact .inl (.inr (.inl (EB z)))
  ·rcases hq with ⟨rfl,_⟩|⟨d,hd,rfl,_⟩
   ·exact absurd z (tO c)
   ·rw[oq (ja z)];exact .inl (.inr (.inl hd))
  ·exact .inl (.inr (.inr (.inr (.inr (MB z)))))
 ·exact .inl (.inr (.inr (.inr (.inl (MA z)))))
 ·exact .inl (.inl (EB z))
 ·subst e
  unfold m9 at hc
  rw[Yz (ns (by decide +kernel)),YA (aI _),ht]at hc
  by_cases e:some t=some (Str.ofString "put",sg c)
  ·injection e with e
   right
   rw[e]
   exact YF.mpr rfl
  ·rw[Yz e]at hc;cases hc
theorem Cv{p q f:Str}{b1 b2 b3 b4:Bool}{w u k w' u':Str}{c:Nat}(h:nV q w u)(hl:dY f w u=false)(hs:bf p q f b1 b2 b3 b4 w u c=.go k w' u'):dY f w' u'=false:=by
 have key:∀{d:Nat}{w:Str},(w=Str.ofString "within"\/w=("freed":Str))->gG d f=true->dY f w (sg d)=false:=by
  intro d w hw hd
  unfold dY
  have e:O7 (sg d) f=!(gG d f):=rfl
  rcases hw with rfl|rfl
  ·rw[Yz (tO d),Yz (ns (by decide +kernel)),e,hd];rfl
  ·rw[Yz (tO d),Yz (ns (by decide +kernel)),e,hd];rfl
 have hdf:∀{d:Nat}{w:Str},dY f w (sg d)=false->gG d f=true:=by
  intro d w hl
  unfold dY at hl
  rw[Yz (tO d)]at hl
  split at hl
  ·cases hl
  ·have e:O7 (sg d) f=!(gG d f):=rfl
   rw[e]at hl
   cases hx:gG d f with
   |true=>rfl
   |false=>rw[hx]at hl;cases hl
 rcases h with ⟨rfl,_⟩|⟨d,hd,rfl,rfl|rfl|rfl⟩
 ·unfold dY at hl;rw[YA (aI _)]at hl;cases hl
 ·have hf:=hdf hl
  rw[lN (aI _)]at hs
  unfold dg at hs
  by_cases hcf:gG c f=true
  ·rw[YA hcf]at hs;cases hs;exact key (.inr rfl) hf
  ·rw[Yz hcf]at hs
   have hcd:¬aZ (sg c) (sg d)=true:=λz=>by rw[oq (ja z)]at hcf;exact hcf hf
   rw[Yz hcd]at hs
   repeat' split at hs
   all_goals first
    | (cases hs;done)
    | (cases hs;exact key (.inl rfl) hf)
 ·unfold dY at hl;rw[Yz (tO d),YA (aI _)]at hl;cases hl
 ·have hf:=hdf hl
  rw[nU (aI _)]at hs
  unfold gb fP at hs
  rw[Yz (tO d)]at hs
  repeat' split at hs
  all_goals first
   | (cases hs;done)
   | (cases hs;exact key (.inl rfl) hf)
theorem EU(f:Str):dY f ("row":Str) ("":Str)=true:=by unfold dY;rw[YA (aI _)]
theorem zk{p q f:Str}{b1 b2 b3 b4:Bool}:∀{cs:List Nat}{w u:Str},nV q w u->dY f w u=false->(runM p q f b1 b2 b3 b4 w u cs).2≠(Str.ofString "row",("":Str),none)
 |[],w,u,_,hl=>λe=>by
  have e:(w,u,(none:Option Str))=(Str.ofString "row",("":Str),none):=e
  injection e with e1 e2
  injection e2 with e2 _
  rw[e1,e2,EU]at hl
  cases hl
 |c::cs,w,u,h,hl=>by
  unfold runM
  cases hs:bf p q f b1 b2 b3 b4 w u c with
  |nH e=>dsimp only;intro z;injection z with _ z;injection z with _ z;cases z
  |go k w' u'=>exact zk (nW h hs) (Cv h hl hs)
theorem zm{p q f:Str}{b1 b2 b3 b4:Bool}{ts:List (Str×Str)}{a:aV}(he:vZ ts):∀{cs:List Nat}{w u:Str}{n:Nat}{pre:List Nat},nV q w u->fj (cL p q f b1 b2 b3 b4 ts) a pre ((w,u),n)->n<=ts.length->(n=ts.length->(w,u)=(Str.ofString "row",("":Str)))->(runM p q f b1 b2 b3 b4 w u cs).2=(Str.ofString "row",("":Str),none)->ts.drop n=zX (runM p q f b1 b2 b3 b4 w u cs).1 cs->∃ds,ds.length<=cs.length/\fj (cL p q f b1 b2 b3 b4 ts) a (pre++ds) ((Str.ofString "row",("":Str)),ts.length):=by
 intro cs
 induction cs with
 |nil =>
  intro w u n pre hq hw hn hr _ ht
  have e:n=ts.length:=by
   have:(ts.drop n).length=0:=by rw[ht];rfl
   rw[List.length_drop]at this
   omega
  have hr:=hr e
  rw[e,hr]at hw
  exact⟨[],YB _,by rw[Ze];exact hw⟩
 |cons c cs ih =>
  intro w u n pre hq hw hn hr tZ ht
  by_cases e:n=ts.length
  ·have hr:=hr e
   rw[e,hr]at hw
   exact⟨[],Zd _,by rw[Ze];exact hw⟩
  have hlt:n<ts.length:=by omega
  unfold runM at tZ ht
  cases hs:bf p q f b1 b2 b3 b4 w u c with
  |nH e=>rw[hs]at tZ;dsimp only at tZ;injection tZ with _ z;injection z with _ z;cases z
  |go k w' u' =>
   rw[hs]at tZ ht
   dsimp only at tZ ht
   have hl:dY f w' u'=true:=by
    cases z:dY f w' u' with
    |true=>rfl
    |false=>exact absurd tZ (zk (nW hq hs) z)
   unfold zX at ht
   by_cases hk:aZ k ("skip":Str)=true
   ·rw[YA hk,ZN]at ht
    have hc:m9 ts n k (sg c)=some n:=by unfold m9;rw[YA hk]
    obtain⟨ds,h1,h2⟩:=ih (nW hq hs) (.snoc hw (tried hq hs hl hlt hc)) hn (λz=>absurd z e) tZ ht
    exact⟨c::ds,Nat.succ_le_succ h1,by rw[Y8]at h2;exact h2⟩
   ·rw[Yz hk]at ht
    have hx:ts[n]?=some (k,if aZ k ("put":Str)=true then sg c else Str.ofString ""):=by
     have:=congrArg List.head? ht
     rw[List.head?_drop]at this
     exact this
    have hd:ts.drop (n+1)=zX (runM p q f b1 b2 b3 b4 w' u' cs).1 cs:=by
     have:=congrArg List.tail ht
     rw[List.tail_drop]at this
     exact this
    have hc:m9 ts n k (sg c)=some (n+1):=by unfold m9;rw[Yz hk,YA hx]
    have Pb:n+1=ts.length->(w',u')=(Str.ofString "row",("":Str)):=λz=>by
     have e1:=he n z
     rw[hx]at e1
     have hk:k=("end":Str):=by injection e1 with e1;exact congrArg Prod.fst e1
     rw[hk]at hs
     exact vY hs
    obtain⟨ds,h1,h2⟩:=ih (nW hq hs) (.snoc hw (tried hq hs hl hlt hc)) hlt Pb tZ hd
    exact⟨c::ds,Nat.succ_le_succ h1,by rw[Y8]at h2;exact h2⟩
theorem BG:∀{ks:List Str}{cs:List Nat}{ks':List Str}{cs':List Nat},ks.length=cs.length->zX (ks++ks') (cs++cs')=zX ks cs++zX ks' cs'
 |[],[],_,_,_=>rfl
 |k::ks,c::cs,ks',cs',h=>by
  show _++zX (ks++ks') (cs++cs')=(_++zX ks cs)++_
  rw[BG (by simpa using h),Y8]
theorem zo{p q f:Str}{b1 b2 b3 b4:Bool}:∀{cs:List Nat}{w u:Str},(runM p q f b1 b2 b3 b4 w u cs).2.2.2=none->(runM p q f b1 b2 b3 b4 w u cs).1.length=cs.length
 |[],_,_,_=>rfl
 |c::cs,w,u,h=>by
  unfold runM at h⊢
  cases hs:bf p q f b1 b2 b3 b4 w u c with
  |nH e=>rw[hs]at h;cases h
  |go k w' u'=>rw[hs]at h;show _+1=_+1;rw[zo h]
theorem zp{p q f:Str}{b1 b2 b3 b4:Bool}{ts:List (Str×Str)}{cs:List Nat}{m:aV}(h:fj (cL p q f b1 b2 b3 b4 ts) m0 cs m):(runM p q f b1 b2 b3 b4 ("row":Str) ("":Str) cs).2=(m.1.1,m.1.2,none)/\zX (runM p q f b1 b2 b3 b4 ("row":Str) ("":Str) cs).1 cs=ts.take m.2:=by
 induction h with
 |nil=>exact⟨rfl,rfl⟩
 |@snoc xs m m' c _ hE ih =>
  obtain⟨i1,i2⟩:=ih
  have hM:=BF hE
  have h0:(runM p q f b1 b2 b3 b4 ("row":Str) ("":Str) xs).2.2.2=none:=by rw[i1]
  have ea:=zf (ds:=[c]) h0
  rw[i1]at ea
  dsimp only at ea
  unfold oh g6 at hM
  dsimp only at hM
  cases hs:bf p q f b1 b2 b3 b4 m.1.1 m.1.2 c with
  |nH e=>rw[hs]at hM;cases hM
  |go k w u =>
   rw[hs]at hM
   dsimp only at hM
   by_cases hl:dY f w u=true
   ·rw[YA hl]at hM
    dsimp only at hM
    cases hc:m9 ts m.2 k (sg c) with
    |none=>rw[hc]at hM;cases hM
    |some n =>
     rw[hc]at hM
     cases hM
     have e1:runM p q f b1 b2 b3 b4 m.1.1 m.1.2 [c]=([k],w,u,none):=by
      unfold runM
      rw[hs]
      rfl
     rw[e1]at ea
     rw[ea]
     refine⟨O,?_⟩
     show zX (_++[k]) (xs++[c])=_
     rw[BG (zo h0),i2]
     unfold m9 at hc
     by_cases hk:aZ k ("skip":Str)=true
     ·rw[YA hk]at hc
      cases hc
      unfold zX
      rw[YA hk]
      exact Ze _
     ·rw[Yz hk]at hc
      by_cases ht:ts[m.2]?=some (k,if aZ k ("put":Str)=true then sg c else Str.ofString "")
      ·rw[YA ht]at hc
       cases hc
       unfold zX
       rw[Yz hk]
       show _=ts.take (m.2+1)
       rw[aM ht]
       rfl
      ·rw[Yz ht]at hc;cases hc
   ·rw[Yz hl]at hM;cases hM
section
variable{p q f:Str}{b1 b2 b3 b4:Bool}
def RW(p q f:Str)(b1 b2 b3 b4:Bool)(w u:Str)(ts:List (Str×Str))(cs:List Nat):Prop:=(runM p q f b1 b2 b3 b4 w u cs).2=(Str.ofString "row",("":Str),none)/\zX (runM p q f b1 b2 b3 b4 w u cs).1 cs=ts
abbrev Ge(p q f:Str)(b1 b2 b3 b4:Bool)(ts:List (Str×Str))(cs:List Nat):Prop:=RW p q f b1 b2 b3 b4 ("row":Str) ("":Str) ts cs
theorem Ge.walk{ts:List (Str×Str)}{cs:List Nat}(he:vZ ts)(h:Ge p q f b1 b2 b3 b4 ts cs):∃ds,ds.length<=cs.length/\fj (cL p q f b1 b2 b3 b4 ts) m0 ds ((Str.ofString "row",("":Str)),ts.length) :=
 zm (pre:=[]) he (.inl ⟨rfl,.inl rfl⟩) .nil (Zd _) (λ_=>rfl) h.1 (by rw[h.2];rfl)
theorem EV{ts:List (Str×Str)}{cs:List Nat}{m:aV}(h:fj (cL p q f b1 b2 b3 b4 ts) m0 cs m)(hg:BD ts m=true):Ge p q f b1 b2 b3 b4 ts cs:=by
 obtain⟨h1,h2⟩:=zp h
 have e:=Zg hg
 rw[e]at h1 h2
 exact⟨h1,by rw[h2];exact List.take_length⟩
def ng(p q f:Str)(b1 b2 b3 b4:Bool)(ts:List (Str×Str))(n:Nat):Prop:=(∃cs,Ge p q f b1 b2 b3 b4 ts cs/\cs.length=n)/\∀cs,Ge p q f b1 b2 b3 b4 ts cs->n<=cs.length
theorem ng.one{ts:List (Str×Str)}{n n':Nat}(h:ng p q f b1 b2 b3 b4 ts n)(h':ng p q f b1 b2 b3 b4 ts n'):n=n':=by
 obtain⟨⟨cs,r,e⟩,m⟩:=h
 obtain⟨⟨cs',r',e'⟩,m'⟩:=h'
 have:=m cs' r'
 have:=m' cs r
 omega
theorem EW{ts:List (Str×Str)}{cs:List Nat}{m:aV}(he:vZ ts)(h:fj (cL p q f b1 b2 b3 b4 ts) m0 cs m)(hg:BD ts m=true)(hmin:∀ys m,fj (cL p q f b1 b2 b3 b4 ts) m0 ys m->BD ts m=true->cs.length<=ys.length):Ge p q f b1 b2 b3 b4 ts cs/\ng p q f b1 b2 b3 b4 ts cs.length:=by
 have r:=EV h hg
 refine⟨r,⟨cs,r,O⟩,λds rd=>?_⟩
 obtain⟨es,h1,h2⟩:=rd.walk he
 exact YU (hmin es _ h2 (YJ rfl)) h1
end
def iA(g:Lb)(t:Str×Str):Lb :=
 if aZ t.1 ("put":Str)=true then ⟨g.rows,g.row,g.cell++t.2⟩
 else if aZ t.1 ("part":Str)=true then ⟨g.rows,g.row++[g.cell],("":Str)⟩
 else if aZ t.1 ("end":Str)=true then ⟨g.rows++[g.row++[g.cell]],[],("":Str)⟩
 else g
def Cw(t:Str×Str):Prop:=(∃c,t=(Str.ofString "put",sg c))\/t=di\/t=gc
theorem lR{t:List (List Str)}:vZ (aR t):=by
 intro n hn
 rcases List.eq_nil_or_concat t with e|⟨l,r,e⟩
 ·rw[e]at hn;exact absurd hn (Nat.succ_ne_zero _)
 ·rw[List.concat_eq_append]at e
  subst e
  rw[iG]at hn⊢
  unfold gg at hn⊢
  rw[←Y8]at hn⊢
  rw[YE]at hn
  have e:n=(aR l++gE r r.length).length:=by simpa using hn
  rw[e,ZR (YB _),Nat.sub_self]
  rfl
theorem zq(cs:List Nat):(Txt.join ("":Str) (cs.map sg)).cps.toList=cs:=by
 have ee:("":Str).cps.toList=[]:=by decide +kernel
 show(Builtin.Str.glued ("":Str) (cs.map sg)).cps.toList=_
 rw[StrLaws.glued_eq_join]
 induction cs with
 |nil=>exact ee
 |cons c cs ih =>
  cases cs with
  |nil=>rfl
  |cons d cs =>
   show(sg c++("":Str)++Str.join ("":Str) ((d::cs).map sg)).cps.toList=_
   rw[app_list,app_list,ee,Ze,ih]
   rfl
def xq(r:List Str):Bool:=decide (1<=r.length/\r.length<=20)
def t6(t:List (List Str)):Bool:=decide (t.length<=60)&&t.all xq
theorem EX{r:List Str}(h1:1<=r.length)(h2:r.length<=20):xq r=true:=YJ ⟨h1,h2⟩
theorem EY{r:List Str}(h:¬(1<=r.length/\r.length<=20)):xq r=false:=YK h
structure JL(t:List (List Str)):Prop where
 n:t.length<=1000
 rl:∀r∈t,r.length<=1000
 ok:∀r∈t,∀c∈r,cy c
 sum:total t<=400
theorem Hg{t:List (List Str)}(g:JL t)(h:t6 t=true):TabOk t:=by
 unfold t6 at h
 rw[Bool.and_eq_true,Zs]at h
 refine⟨Zg h.1,λr hr=>?_,g.sum⟩
 obtain⟨a,b⟩:=Zg (h.2 r hr)
 exact⟨a,b,g.ok r hr⟩
theorem Hh{t:List (List Str)}(h:TabOk t):t6 t=true:=by
 unfold t6
 rw[Bool.and_eq_true,Zs]
 exact⟨YJ h.n,λr hr=>EX (h.rows r hr).lo (h.rows r hr).hi⟩
theorem TabOk.s{t:List (List Str)}(h:TabOk t):JL t:=⟨by have:=h.n;omega,λr hr=>by have:=(h.rows r hr).hi;omega,λr hr=>(h.rows r hr).ok,h.sum⟩
theorem EZ{K:W.Frag}{H:Hp}{l l2:Addr}{es Pc:List V}{R:List (List Str)}(h1:H l=some (.lst es))(h2:H l2=some (.lst Pc))(r1:Paired (aU H) es R)(r2:Paired (aU H) Pc R):TopD K H (.ref l) (.ref l2) :=
 ⟨1,l,l2,es,Pc,rfl,rfl,by decide,r1.length.trans r2.length.symm,.inr ⟨aX.of h1,aX.of h2⟩,Cr r1 r2⟩
theorem JM{t:List (List Str)}(h:TabOk t):(aR t).length<=9000:=by
 have:=nZ h t.length
 rw[List.take_length]at this
 omega
theorem E1(cs:List Nat):(Txt.join ("":Str) (cs.map sg)).length=cs.length:=by
 have:=congrArg List.length (zq cs)
 rw[YX]at this
 exact this
theorem zu:di≠gc:=λe=>by
 have e:Str.ofString "part"=("end":Str):=congrArg Prod.fst e
 exact vX e
section
variable{good:aV->Bool}{led:aV->List (Nat×aV)}{a:aV}
end
section
variable{p q f:Str}{b1 b2 b3 b4:Bool}
def PR(p q f:Str)(b1 b2 b3 b4:Bool)(w u:Str)(ts:List (Str×Str))(cs:List Nat)(w' u':Str):Prop:=(runM p q f b1 b2 b3 b4 w u cs).2=(w',u',none)/\zX (runM p q f b1 b2 b3 b4 w u cs).1 cs=ts
theorem Ge.pr{ts:List (Str×Str)}{cs:List Nat}:Ge p q f b1 b2 b3 b4 ts cs↔PR p q f b1 b2 b3 b4 ("row":Str) ("":Str) ts cs ("row":Str) ("":Str):=Iff.rfl
end
def cells(t:List (List Str)):Nat:=(t.map List.length).sum
theorem AD(t:List (List Str))(r:List Str):cells (t++[r])=cells t+r.length:=by
 unfold cells;rw[YW,Zv];simp
theorem wg(R:List (List Str))(row:List Str):∀(y z:Str),(kL y).foldl iA ⟨R,row,z⟩=⟨R,row,z++y⟩:=by
 intro y
 have key:∀(cs:List Nat)(z:Str),(cs.map λk=>(Str.ofString "put",sg k)).foldl iA ⟨R,row,z⟩=⟨R,row,z++⟨cs.toArray⟩⟩:=by
  intro cs
  induction cs with
  |nil=>intro z;show(⟨R,row,z⟩:Lb)=_;rw[show z++(⟨[].toArray⟩:Str)=z from nX (by rw[app_list];simp)]
  |cons c cs ih =>
   intro z
   rw[Zl,Zw]
   have e:iA ⟨R,row,z⟩ (Str.ofString "put",sg c)=⟨R,row,z++sg c⟩:=by unfold iA;dsimp only;rw[YA (aI _)]
   rw[e,ih]
   congr 1
   refine nX ?_
   rw[app_list,app_list,app_list]
   simp[sg]
 intro z
 have:=key y.cps.toList z
 rw[show(⟨y.cps.toList.toArray⟩:Str)=y from nX (by simp)]at this
 exact this
theorem wj(R:List (List Str))(r:List Str):∀(n:Nat)(c:Str),r[n]?=some c->(gE r (n+1)).foldl iA ⟨R,[],("":Str)⟩=⟨R,r.take n,c⟩
 | 0,c,h=>by
  rw[eL h]
  show(([]:List (Str×Str))++((if 0=0 then [] else [di])++kL c)).foldl iA _=_
  rw[YA rfl,ZN,ZN,wg,EG]
  rfl
 |n+1,c,h=>by
  obtain⟨d,hd⟩:∃d,r[n]?=some d:=⟨_,YV (by have:=(YG.mp h).1;omega)⟩
  rw[eL h,Zt,wj R r n d hd,Yz (by omega),Zt]
  have e:[di].foldl iA ⟨R,r.take n,d⟩=⟨R,r.take n++[d],("":Str)⟩:=by
   show iA _ di=_
   unfold iA
   rw[show di.1=("part":Str) from rfl,Yz (ns (by decide +kernel)),YA (aI _)]
  rw[e,wg,EG,←aM hd]
theorem zv:∀(t R:List (List Str)),(∀r∈t,1<=r.length)->(aR t).foldl iA ⟨R,[],("":Str)⟩=⟨R++t,[],("":Str)⟩
 |[],R,_=>by show(⟨R,[],_⟩:Lb)=_;rw[Ze]
 |r::t,R,h=>by
  have e:aR (r::t)=gg r++aR t:=rfl
  have h1:=h r (Y6 ..)
  obtain⟨n,hn⟩:∃n,r.length=n+1:=⟨r.length-1,by omega⟩
  obtain⟨c,hc⟩:∃c,r[n]?=some c:=⟨_,YV (by omega)⟩
  have e2:(gg r).foldl iA ⟨R,[],("":Str)⟩=⟨R++[r],[],("":Str)⟩:=by
   unfold gg
   rw[hn,Zt,wj R r n c hc]
   show iA _ gc=_
   unfold iA
   rw[show gc.1=("end":Str) from rfl,Yz (ns (by decide +kernel)),Yz (ns (by decide +kernel)),YA (aI _)]
   dsimp only
   rw[←aM hc,YR (by omega)]
  rw[e,Zt,e2,zv t (R++[r]) λr' h'=>h r' (YS _ h'),Y8]
  rfl
section
variable{p q f:Str}{b1 b2 b3 b4:Bool}
theorem zw:∀(fs:List Str),(fs.map (·.length)).sum=(Cp fs).length
 |[]=>kJ.symm
 |F::fs=>by rw[Zl,Zy,zw fs];show _=(F++Cp fs).length;rw[cR]
theorem BH:∀(fs:List Str),Txt.join ("":Str) fs=Cp fs:=by
 intro fs
 show Builtin.Str.glued ("":Str) fs=_
 rw[StrLaws.glued_eq_join]
 induction fs with
 |nil=>rfl
 |cons F fs ih =>
  cases fs with
  |nil=>show F=F++Str.ofString "";rw[EH]
  |cons G fs =>
   show F++Str.ofString ""++Str.join ("":Str) (G::fs)=F++Cp (G::fs)
   rw[ih,EH]
end
theorem join_list(zs:List Str):(Txt.join ("":Str) zs).cps.toList=zs.flatMap (λz=>z.cps.toList):=by
 have ee:("":Str).cps.toList=[]:=by decide +kernel
 show(Builtin.Str.glued ("":Str) zs).cps.toList=_
 rw[StrLaws.glued_eq_join]
 induction zs with
 |nil=>exact ee
 |cons c cs ih =>
  cases cs with
  |nil =>
   show c.cps.toList=_
   simp
  |cons d cs =>
   show(c++("":Str)++Str.join ("":Str) (d::cs)).cps.toList=_
   rw[app_list,app_list,ee,Ze,ih]
   simp[List.flatMap_cons]
inductive Lf(H:Hp):V->Prop where
 |flat {v:V}:ji v=true->(∀z,v=.str z->z.length<=10000)->Lf H v
 |tup {a:Addr}{xs:List V}:H a=some (.tup xs)->(∀x∈xs,ji x=true\/∃b,x=.ref b)->Lf H (.ref a)
 |RX {a:Addr}:H a=some (.dK [])->Lf H (.ref a)
theorem Lf.set{H:Hp}{v:V}{D:Addr}{ys:List V}{o:HO}(hD:H D=some (.lst ys))(h:Lf H v):Lf (upd H D o) v:=by
 cases h with
 |flat e f=>exact .flat e f
 |@tup a xs e f=>exact .tup (by rw[az (λz=>by subst z;rw[e]at hD;cases hD)];exact e) f
 |@RX a e=>exact .RX (by rw[az (λz=>by subst z;rw[e]at hD;cases hD)];exact e)
def jk(N:Addr->Prop)(H:Hp)(x:V)(r:List Str):Prop:=∃b,x=V.ref b/\N b/\H b=some (.lst (r.map V.str))
theorem jk.mono{N N':Addr->Prop}{H H':Hp}(s:aF H H')(f:∀a,N a->N' a){x:V}{r:List Str}(h:jk N H x r):jk N' H' x r:=let ⟨b,e1,e2,e3⟩:=h;⟨b,e1,f _ e2,s _ _ e3⟩
theorem jk.set{N:Addr->Prop}{H:Hp}{D:Addr}{o:HO}(f:∀a,N a->a≠D){x:V}{r:List Str}(h:jk N H x r):jk N (upd H D o) x r:=let ⟨b,e1,e2,e3⟩:=h;⟨b,e1,e2,by rw[az (f _ e2)];exact e3⟩
theorem jk.not{N:Addr->Prop}{H:Hp}{D:Addr}(hD:H D=none){x:V}{r:List Str}(h:jk N H x r):jk (λb=>N b/\b≠D) H x r:=let ⟨b,e1,e2,e3⟩:=h;⟨b,e1,⟨e2,λz=>by rw[z,hD]at e3;cases e3⟩,e3⟩
theorem fM{a b:Int}(h:0<b):0<=a % b:=ZY a (by omega)
theorem fN{a b:Int}(h:0<b):a % b<b:=Int.emod_lt_of_pos a h
section
variable{good:aV->Bool}{led:aV->List (Nat×aV)}{a:aV}
end
section
variable{p q f:Str}{b1 b2 b3 b4:Bool}
end
section
variable{p q f:Str}{b1 b2 b3 b4:Bool}
def Ug(w:Str):Prop:=w=Str.ofString "row"\/w=("cell":Str)
theorem E2{w:Str}(h:Ug w){u:Str}{c:Nat}:bf p q f b1 b2 b3 b4 w u c=dW p q f b3 w u c:=by
 rcases h with rfl|rfl
 ·rw[sL (by decide +kernel) (by decide +kernel) (by decide +kernel) (by decide +kernel)];unfold mE;rw[Yz (ns (by decide +kernel))]
 ·rw[sL (by decide +kernel) (by decide +kernel) (by decide +kernel) (by decide +kernel)];unfold mE;rw[Yz (ns (by decide +kernel))]
theorem PR.step{w u k w' u' wE uE:Str}{c:Nat}{cs:List Nat}{ts:List (Str×Str)}(hs:bf p q f b1 b2 b3 b4 w u c=.go k w' u')(h:PR p q f b1 b2 b3 b4 w' u' ts cs wE uE):PR p q f b1 b2 b3 b4 w u ((if aZ k ("skip":Str)=true then [] else [(k,if aZ k ("put":Str)=true then sg c else Str.ofString "")])++ts) (c::cs) wE uE:=by
 refine⟨by rw[lP hs];exact h.1,?_⟩
 rw[lP hs]
 show _++zX _ cs=_
 rw[h.2]
theorem PR.un{w u wE uE:Str}{c:Nat}{cs:List Nat}{ts:List (Str×Str)}(h:PR p q f b1 b2 b3 b4 w u ts (c::cs) wE uE):∃k w' u' ts',bf p q f b1 b2 b3 b4 w u c=.go k w' u'/\ts=(if aZ k ("skip":Str)=true then [] else [(k,if aZ k ("put":Str)=true then sg c else Str.ofString "")])++ts'/\PR p q f b1 b2 b3 b4 w' u' ts' cs wE uE:=by
 obtain⟨h1,h2⟩:=h
 cases hs:bf p q f b1 b2 b3 b4 w u c with
 |nH e=>rw[zd hs]at h1;injection h1 with _ z;injection z with _ z;cases z
 |go k w' u'=>rw[lP hs]at h1 h2;exact⟨k,w',u',_,rfl,h2.symm,h1,rfl⟩
end
inductive Qs where
 |row|cell|plain|within|dZ
inductive Kq where
 |skip|put|part|fin
def Qs.nm:Qs->Str
 | .row=>Str.ofString "row" | .cell=>Str.ofString "cell" | .plain=>Str.ofString "plain" | .within=>Str.ofString "within" | .dZ=>Str.ofString "doubt"
def Qs.un(b:Nat):Qs->Str
 | .within=>sg b | .dZ=>sg b|_=>Str.ofString ""
def Kq.nm:Kq->Str
 | .skip=>Str.ofString "skip" | .put=>Str.ofString "put" | .part=>Str.ofString "part" | .fin=>Str.ofString "end"
def eo(a b:Nat)(s:Qs)(c:Nat):Option (Kq×Qs):=match s with
 | .within=>if c=b then some (.skip,.dZ) else some (.put,.within)
 | .dZ=>if c=b then some (.put,.within) else if c=10 then some (.fin,.row) else if c=a then some (.part,.cell) else none
 | .plain=>if c=10 then some (.fin,.row) else if c=a then some (.part,.cell) else if c=b then none else some (.put,.plain)
 |_=>if c=10 then some (.fin,.row) else if c=b then some (.skip,.within) else if c=a then some (.part,.cell) else some (.put,.plain)
section
variable{a b:Nat}
theorem t7{c d:Nat}:gG c (sg d)=decide (c=d):=by
 rw[jC]
 congr 1
 exact propext ⟨λh=>YF.mp h,λh=>by rw[h];exact YF.mpr rfl⟩
theorem t8{c:Nat}:gG c ("":Str)=false:=by
 rw[jC]
 exact YK (by rw[sM];exact λh=>nomatch h)
theorem lS{c d:Nat}:aZ (sg c) (sg d)=decide (c=d):=by
 by_cases h:c=d
 ·rw[h,YJ rfl];exact aI _
 ·rw[YK h]
  have:=JF h
  simpa using this
theorem iI:Str.ofString "\n"=sg 10:=by decide +kernel
theorem zx:Str.ofString " "=sg 32:=by decide +kernel
theorem wk(hab:a≠b)(hb:b≠10)(s:Qs)(c:Nat):match eo a b s c with
  |some (k,s')=>bf (sg a) (sg b) ("":Str) true true false false s.nm (s.un b) c=.go k.nm s'.nm (s'.un b)
  |none=>∃e,bf (sg a) (sg b) ("":Str) true true false false s.nm (s.un b) c=.nH e:=by
 cases s with
 |within =>
  rw[show bf (sg a) (sg b) ("":Str) true true false false (Qs.nm .within) (Qs.un b .within) c=dg ("":Str) true true (sg b) c from lN (aI _)]
  unfold eo dg
  simp only[t8,lS,iI,zx,t7,Zj,ZS,if_true,ZT,ZX,Bool.not_false]
  by_cases hb2:c=b
  ·simp only[YA hb2]
   rfl
  simp only[Yz hb2]
  split<;>rfl
 |dZ =>
  rw[show bf (sg a) (sg b) ("":Str) true true false false (Qs.nm .dZ) (Qs.un b .dZ) c=jB (sg a) false (sg b) c from tM (aI _)]
  unfold eo jB dh
  simp only[t8,lS,iI,zx,t7,Zj,ZS,if_true,ZT,ZX,Bool.not_false]
  by_cases hb2:c=b
  ·simp only[YA hb2]
   rfl
  by_cases h1:c=10
  ·simp only[Yz hb2,YA h1]
   rfl
  by_cases h2:c=a
  ·simp only[Yz hb2,Yz h1,YA h2]
   rfl
  simp only[Yz hb2,Yz h1,Yz h2]
  split<;>exact⟨_,rfl⟩
 |plain =>
  rw[show bf (sg a) (sg b) ("":Str) true true false false (Qs.nm .plain) (Qs.un b .plain) c=fL (sg a) (sg b) ("":Str) false c from zc (aI _)]
  unfold eo fL
  simp only[t8,lS,iI,zx,t7,Zj,ZS,if_true,ZT,ZX,Bool.not_false]
  by_cases h1:c=10
  ·simp only[YA h1]
   rfl
  by_cases h2:c=a
  ·simp only[Yz h1,YA h2]
   rfl
  by_cases hb2:c=b
  ·simp only[Yz h1,Yz h2,YA hb2]
   exact⟨_,O⟩
  simp only[Yz h1,Yz h2,Yz hb2]
  rfl
 |row =>
  rw[show bf (sg a) (sg b) ("":Str) true true false false (Qs.nm .row) (Qs.un b .row) c=dW (sg a) (sg b) ("":Str) false ("row":Str) ("":Str) c from E2 (.inl rfl)]
  unfold eo dW
  simp only[t8,lS,iI,zx,t7,Zj,ZS,if_true,ZT,ZX,Bool.not_false]
  by_cases h1:c=10
  ·simp only[YA h1]
   rfl
  by_cases hb2:c=b
  ·simp only[Yz h1,YA hb2]
   rw[hb2];rfl
  by_cases h2:c=a
  ·simp only[Yz h1,Yz hb2,YA h2]
   rfl
  simp only[Yz h1,Yz hb2,Yz h2]
  split<;>rfl
 |cell =>
  rw[show bf (sg a) (sg b) ("":Str) true true false false (Qs.nm .cell) (Qs.un b .cell) c=dW (sg a) (sg b) ("":Str) false ("cell":Str) ("":Str) c from E2 (.inr rfl)]
  unfold eo dW
  simp only[t8,lS,iI,zx,t7,Zj,ZS,if_true,ZT,ZX,Bool.not_false]
  by_cases h1:c=10
  ·simp only[YA h1]
   rfl
  by_cases hb2:c=b
  ·simp only[Yz h1,YA hb2]
   rw[hb2];rfl
  by_cases h2:c=a
  ·simp only[Yz h1,Yz hb2,YA h2]
   rfl
  simp only[Yz h1,Yz hb2,Yz h2]
  split<;>rfl
end
def cq(a b:Nat):List (Str×Str)->Nat×Nat×Bool
 |[]=>(1,0,false)
 |t::r=>if aZ t.1 ("put":Str)=true then ((if t.2=sg b then 2 else 1)+(cq a b r).1,1+(cq a b r).2.1,(decide (t.2=sg a)||decide (t.2=sg b)||decide (t.2=sg 10))||(cq a b r).2.2)
  else (2+(if (cq a b r).2.2=true then 1+(cq a b r).1 else (cq a b r).2.1),1+(if (cq a b r).2.2=true then 1+(cq a b r).1 else (cq a b r).2.1),false)
def cB(a b:Nat)(ts:List (Str×Str)):Nat:=if (cq a b ts).2.2=true then 1+(cq a b ts).1 else (cq a b ts).2.1
def AE:Kq->Nat->List (Str×Str)
 | .skip,_=>[] | .put,c=>[(Str.ofString "put",sg c)] | .part,_=>[di] | .fin,_=>[gc]
section
variable{a b:Nat}
theorem pY{c:Nat}{r:List (Str×Str)}:cq a b ((Str.ofString "put",sg c)::r)=((if c=b then 2 else 1)+(cq a b r).1,1+(cq a b r).2.1,(decide (c=a)||decide (c=b)||decide (c=10))||(cq a b r).2.2):=by
 have e:∀d,(sg c=sg d)=(c=d):=λd=>propext ⟨λh=>oq h,λh=>by rw[h]⟩
 show(if aZ ("put":Str) ("put":Str)=true then _ else _)=_
 rw[YA (aI _)]
 simp only[e]
theorem kO{t:Str×Str}{r:List (Str×Str)}(h:t=di\/t=gc):cq a b (t::r)=(2+cB a b r,1+cB a b r,false):=by
 have e:aZ t.1 ("put":Str)=false:=by rcases h with rfl|rfl<;>decide +kernel
 show(if aZ t.1 ("put":Str)=true then _ else _)=_
 rw[Yz (by rw[e];decide)]
 rfl
theorem BI:∀{ts:List (Str×Str)},(cq a b ts).2.1+1<=(cq a b ts).1
 |[]=>YB _
 |t::r=>by
  have ih:=BI (ts:=r)
  show(if aZ t.1 ("put":Str)=true then _ else _:Nat×Nat×Bool).2.1+1<=(if aZ t.1 ("put":Str)=true then _ else _:Nat×Nat×Bool).1
  by_cases h:aZ t.1 ("put":Str)=true
  ·rw[YA h]
   dsimp only
   split<;>omega
  ·rw[Yz h]
   dsimp only
   omega
abbrev BJ(a b:Nat)(s:Qs)(ts:List (Str×Str))(cs:List Nat):Prop:=RW (sg a) (sg b) ("":Str) true true false false s.nm (s.un b) ts cs
theorem BK(hab:a≠b)(hb:b≠10){s:Qs}{ts:List (Str×Str)}{c:Nat}{cs:List Nat}(h:BJ a b s ts (c::cs)):∃k s' ts',eo a b s c=some (k,s')/\ts=AE k c++ts'/\BJ a b s' ts' cs:=by
 obtain⟨k,w',u',ts',hst,Pd,h'⟩:=PR.un (wE:=("row":Str)) (uE:=("":Str)) (show PR (sg a) (sg b) ("":Str) true true false false s.nm (s.un b) ts (c::cs) ("row":Str) ("":Str) from h)
 have q:=wk hab hb s c
 cases hm:eo a b s c with
 |none =>
  rw[hm]at q
  obtain⟨e,q⟩:=q
  rw[hst]at q;cases q
 |some x =>
  obtain⟨k2,s'⟩:=x
  rw[hm]at q
  have q:bf (sg a) (sg b) ("":Str) true true false false s.nm (s.un b) c=.go k2.nm s'.nm (s'.un b):=q
  rw[hst]at q
  injection q with e1 e2 e3
  subst e1 e2 e3
  refine⟨k2,s',ts',O,?_,h'⟩
  rw[Pd]
  congr 1
  cases k2
  ·exact YA (aI _)
  ·rw[Yz (show ¬aZ (Kq.nm .put) ("skip":Str)=true by decide +kernel),YA (show aZ (Kq.nm .put) ("put":Str)=true from aI _)];rfl
  ·rw[Yz (show ¬aZ (Kq.nm .part) ("skip":Str)=true by decide +kernel),Yz (show ¬aZ (Kq.nm .part) ("put":Str)=true by decide +kernel)];rfl
  ·rw[Yz (show ¬aZ (Kq.nm .fin) ("skip":Str)=true by decide +kernel),Yz (show ¬aZ (Kq.nm .fin) ("put":Str)=true by decide +kernel)];rfl
theorem gF(hab:a≠b)(hb:b≠10){s s':Qs}{ts':List (Str×Str)}{c:Nat}{k:Kq}{cs:List Nat}(hm:eo a b s c=some (k,s'))(h:BJ a b s' ts' cs):BJ a b s (AE k c++ts') (c::cs):=by
 have q:=wk hab hb s c
 rw[hm]at q
 have r:=PR.step q h
 have e:(if aZ k.nm ("skip":Str)=true then [] else [(k.nm,if aZ k.nm ("put":Str)=true then sg c else Str.ofString "")])=AE k c:=by
  cases k
  ·exact YA (aI _)
  ·rw[Yz (show ¬aZ (Kq.nm .put) ("skip":Str)=true by decide +kernel),YA (show aZ (Kq.nm .put) ("put":Str)=true from aI _)];rfl
  ·rw[Yz (show ¬aZ (Kq.nm .part) ("skip":Str)=true by decide +kernel),Yz (show ¬aZ (Kq.nm .part) ("put":Str)=true by decide +kernel)];rfl
  ·rw[Yz (show ¬aZ (Kq.nm .fin) ("skip":Str)=true by decide +kernel),Yz (show ¬aZ (Kq.nm .fin) ("put":Str)=true by decide +kernel)];rfl
 rw[e]at r
 exact r
def NQ(a b:Nat)(s:Qs)(ts:List (Str×Str))(n:Nat):Prop:=match s with
 | .plain=>(cq a b ts).2.2=false/\(cq a b ts).2.1<=n
 | .within=>(cq a b ts).1<=n
 | .dZ=>(cq a b ts).1<=n+1
 |_=>cB a b ts<=n
theorem E3(hab:a≠b)(ha:a≠10)(hb:b≠10):∀{cs:List Nat}{s:Qs}{ts:List (Str×Str)},BJ a b s ts cs->NQ a b s ts cs.length
 |[],s,ts,h=>by
  have e:ts=[]:=h.2.symm
  have e2:s.nm=("row":Str):=congrArg (λx:Str×Str×Option Str=>x.1) h.1
  rw[e]
  cases s with
  |row=>exact YB 0
  |cell=>exact absurd e2 (by decide +kernel)
  |plain=>exact absurd e2 (by decide +kernel)
  |within=>exact absurd e2 (by decide +kernel)
  |dZ=>exact absurd e2 (by decide +kernel)
 |c::cs,s,ts,h=>by
  obtain⟨k,s',ts',hm,Pd,h'⟩:=BK hab hb h
  have ih:=E3 hab ha hb h'
  rw[Pd,YY]
  have MC:∀{k s'},(if c=10 then some (Kq.fin,Qs.row) else if c=b then some (.skip,.within) else if c=a then some (.part,.cell) else some (.put,.plain))=some (k,s')->NQ a b s' ts' cs.length->cB a b (AE k c++ts')<=cs.length+1:=by
   intro k s' hm ih
   by_cases h1:c=10
   ·rw[YA h1]at hm;cases hm
    have ih:cB a b ts'<=cs.length:=ih
    show cB a b (gc::ts')<=_
    unfold cB
    rw[kO (.inr rfl)]
    show 1+cB a b ts'<=_
    omega
   rw[Yz h1]at hm
   by_cases h2:c=b
   ·rw[YA h2]at hm;cases hm
    have ih:(cq a b ts').1<=cs.length:=ih
    have:=BI (a:=a) (b:=b) (ts:=ts')
    show cB a b ts'<=_
    unfold cB
    split<;>omega
   rw[Yz h2]at hm
   by_cases h3:c=a
   ·rw[YA h3]at hm;cases hm
    have ih:cB a b ts'<=cs.length:=ih
    show cB a b (di::ts')<=_
    unfold cB
    rw[kO (.inl rfl)]
    show 1+cB a b ts'<=_
    omega
   rw[Yz h3]at hm;cases hm
   obtain⟨i1,i2⟩:(cq a b ts').2.2=false/\(cq a b ts').2.1<=cs.length:=ih
   show cB a b ((Str.ofString "put",sg c)::ts')<=_
   unfold cB
   rw[pY]
   dsimp only
   rw[i1,YK h3,YK h2,YK h1,Yz (by decide)]
   omega
  cases s with
  |row=>exact MC hm ih
  |cell=>exact MC hm ih
  |plain =>
   have hm:(if c=10 then some (Kq.fin,Qs.row) else if c=a then some (.part,.cell) else if c=b then none else some (.put,.plain))=some (k,s'):=hm
   by_cases h1:c=10
   ·rw[YA h1]at hm;cases hm
    have ih:cB a b ts'<=cs.length:=ih
    show(cq a b (gc::ts')).2.2=false/\(cq a b (gc::ts')).2.1<=_
    rw[kO (.inr rfl)]
    exact⟨O,by dsimp only;omega⟩
   rw[Yz h1]at hm
   by_cases h3:c=a
   ·rw[YA h3]at hm;cases hm
    have ih:cB a b ts'<=cs.length:=ih
    show(cq a b (di::ts')).2.2=false/\(cq a b (di::ts')).2.1<=_
    rw[kO (.inl rfl)]
    exact⟨O,by dsimp only;omega⟩
   rw[Yz h3]at hm
   by_cases h2:c=b
   ·rw[YA h2]at hm;cases hm
   rw[Yz h2]at hm;cases hm
   obtain⟨i1,i2⟩:(cq a b ts').2.2=false/\(cq a b ts').2.1<=cs.length:=ih
   show(cq a b ((Str.ofString "put",sg c)::ts')).2.2=false/\(cq a b ((Str.ofString "put",sg c)::ts')).2.1<=_
   rw[pY]
   dsimp only
   rw[i1,YK h3,YK h2,YK h1]
   exact⟨O,by omega⟩
  |within =>
   have hm:(if c=b then some (Kq.skip,Qs.dZ) else some (.put,.within))=some (k,s'):=hm
   by_cases h2:c=b
   ·rw[YA h2]at hm;cases hm
    exact ih
   rw[Yz h2]at hm;cases hm
   have ih:(cq a b ts').1<=cs.length:=ih
   show(cq a b ((Str.ofString "put",sg c)::ts')).1<=_
   rw[pY]
   dsimp only
   rw[Yz h2]
   omega
  |dZ =>
   have hm:(if c=b then some (Kq.put,Qs.within) else if c=10 then some (.fin,.row) else if c=a then some (.part,.cell) else none)=some (k,s'):=hm
   by_cases h2:c=b
   ·rw[YA h2]at hm;cases hm
    have ih:(cq a b ts').1<=cs.length:=ih
    show(cq a b ((Str.ofString "put",sg c)::ts')).1<=_
    rw[pY]
    dsimp only
    rw[YA h2]
    omega
   rw[Yz h2]at hm
   by_cases h1:c=10
   ·rw[YA h1]at hm;cases hm
    have ih:cB a b ts'<=cs.length:=ih
    show(cq a b (gc::ts')).1<=_
    rw[kO (.inr rfl)]
    dsimp only;omega
   rw[Yz h1]at hm
   by_cases h3:c=a
   ·rw[YA h3]at hm;cases hm
    have ih:cB a b ts'<=cs.length:=ih
    show(cq a b (di::ts')).1<=_
    rw[kO (.inl rfl)]
    dsimp only;omega
   rw[Yz h3]at hm;cases hm
theorem E4(hab:a≠b)(ha:a≠10)(hb:b≠10):∀{ts:List (Str×Str)},(∀t∈ts,Cw t)->ts.getLast?=some gc->(∃cs,BJ a b .within ts cs/\cs.length=(cq a b ts).1)/\((cq a b ts).2.2=false->∀s:Qs,s=.row\/s=.cell\/s=.plain->∃cs,BJ a b s ts cs/\cs.length=(cq a b ts).2.1)
 |[],_,hl=>by cases hl
 |t::r,hk,hl=>by
  have hk':∀t∈r,Cw t:=λt' h=>hk t' (YS _ h)
  have MC:r≠[]->∀s:Qs,s=.row\/s=.cell->∃cs,BJ a b s r cs/\cs.length=cB a b r:=λhr s hs=>by
   have hl':r.getLast?=some gc:=by
    rw[List.getLast?_cons]at hl
    cases q:r.getLast? with
    |none=>exact absurd (List.getLast?_eq_none_iff.mp q) hr
    |some y=>rw[q]at hl;exact hl
   obtain⟨⟨cs,h1,h2⟩,h3⟩:=E4 hab ha hb hk' hl'
   unfold cB
   by_cases hS:(cq a b r).2.2=true
   ·rw[YA hS]
    have hm:eo a b s b=some (.skip,.within):=by
     rcases hs with rfl|rfl<;>(show(if b=10 then _ else if b=b then some (Kq.skip,Qs.within) else _)=_;rw[Yz hb,YA rfl])
    exact⟨b::cs,gF hab hb hm h1,by rw[YY,h2];omega⟩
   ·rw[Yz hS]
    exact h3 (by simpa using hS) s (by rcases hs with rfl|rfl;exact .inl rfl;exact .inr (.inl rfl))
  have fin:∀{c:Nat}{k:Kq}{s':Qs},t=di\/t=gc->[t]=AE k c->(∀s:Qs,s=.row\/s=.cell\/s=.plain\/s=.dZ->eo a b s c=some (k,s'))->(s'=.row\/s'=.cell)->(∃cs,BJ a b s' r cs/\cs.length=cB a b r)->(∃cs,BJ a b .within (t::r) cs/\cs.length=(cq a b (t::r)).1)/\((cq a b (t::r)).2.2=false->∀s:Qs,s=.row\/s=.cell\/s=.plain->∃cs,BJ a b s (t::r) cs/\cs.length=(cq a b (t::r)).2.1):=by
   rintro c k s' ht et hm hs' ⟨cs,h1,h2⟩
   rw[kO ht]
   refine⟨⟨b::c::cs,?_,by rw[YY,YY,h2];show _=2+cB a b r;omega⟩,λ_ s hs=>⟨c::cs,?_,by rw[YY,h2];show _=1+cB a b r;omega⟩⟩
   ·have q:=gF hab hb (hm .dZ (.inr (.inr (.inr rfl)))) h1
    rw[←et]at q
    have q2:=gF hab hb (show eo a b .within b=some (.skip,.dZ) from YA rfl) q
    exact q2
   ·have q:=gF hab hb (hm s (by rcases hs with q|q|q;exact .inl q;exact .inr (.inl q);exact .inr (.inr (.inl q)))) h1
    rw[←et]at q
    exact q
  rcases hk t (Y6 ..) with ⟨c,rfl⟩|rfl|rfl
  ·
   have hr:r≠[]:=λq=>by
    rw[q]at hl
    have hl:(Str.ofString "put",sg c)=gc:=Y0 hl
    exact zj (congrArg Prod.fst hl)
   have hl':r.getLast?=some gc:=by
    rw[List.getLast?_cons]at hl
    cases q:r.getLast? with
    |none=>exact absurd (List.getLast?_eq_none_iff.mp q) hr
    |some y=>rw[q]at hl;exact hl
   obtain⟨⟨cs,h1,h2⟩,h3⟩:=E4 hab ha hb hk' hl'
   rw[pY]
   refine⟨?_,λhS s hs=>?_⟩
   ·by_cases h:c=b
    ·rw[YA h]
     have q:=gF hab hb (show eo a b .dZ c=some (.put,.within) from YA h) h1
     have q2:=gF hab hb (show eo a b .within b=some (.skip,.dZ) from YA rfl) q
     exact⟨b::c::cs,q2,by rw[YY,YY,h2];dsimp only;omega⟩
    ·rw[Yz h]
     have q:=gF hab hb (show eo a b .within c=some (.put,.within) from Yz h) h1
     exact⟨c::cs,q,by rw[YY,h2];dsimp only;omega⟩
   ·dsimp only at hS
    simp only[Bool.or_eq_false_iff,decide_eq_false_iff_not]at hS
    obtain⟨⟨⟨na,nb⟩,Dm⟩,hS'⟩:=hS
    obtain⟨Uh,g1,g2⟩:=h3 hS' .plain (.inr (.inr rfl))
    have hm:eo a b s c=some (.put,.plain):=by
     rcases hs with rfl|rfl|rfl
     ·show(if c=10 then _ else if c=b then _ else if c=a then _ else some (Kq.put,Qs.plain))=_
      rw[Yz Dm,Yz nb,Yz na]
     ·show(if c=10 then _ else if c=b then _ else if c=a then _ else some (Kq.put,Qs.plain))=_
      rw[Yz Dm,Yz nb,Yz na]
     ·show(if c=10 then _ else if c=a then _ else if c=b then _ else some (Kq.put,Qs.plain))=_
      rw[Yz Dm,Yz na,Yz nb]
    exact⟨c::Uh,gF hab hb hm g1,by rw[YY,g2];dsimp only;omega⟩
  ·
   have hr:r≠[]:=λq=>by
    rw[q]at hl
    exact zu (Y0 hl)
   refine fin (c:=a) (k:=.part) (s':=.cell) (.inl rfl) rfl (λs hs=>?_) (.inr rfl) (MC hr .cell (.inr rfl))
   rcases hs with rfl|rfl|rfl|rfl
   ·show(if a=10 then _ else if a=b then _ else if a=a then some (Kq.part,Qs.cell) else _)=_
    rw[Yz ha,Yz hab,YA rfl]
   ·show(if a=10 then _ else if a=b then _ else if a=a then some (Kq.part,Qs.cell) else _)=_
    rw[Yz ha,Yz hab,YA rfl]
   ·show(if a=10 then _ else if a=a then some (Kq.part,Qs.cell) else _)=_
    rw[Yz ha,YA rfl]
   ·show(if a=b then _ else if a=10 then _ else if a=a then some (Kq.part,Qs.cell) else _)=_
    rw[Yz hab,Yz ha,YA rfl]
  ·
   have hb0:∃cs,BJ a b .row r cs/\cs.length=cB a b r:=by
    by_cases hr:r=[]
    ·rw[hr];exact⟨[],⟨rfl,rfl⟩,rfl⟩
    ·exact MC hr .row (.inl rfl)
   refine fin (c:=10) (k:=.fin) (s':=.row) (.inr rfl) rfl (λs hs=>?_) (.inl rfl) hb0
   rcases hs with rfl|rfl|rfl|rfl
   ·rfl
   ·rfl
   ·rfl
   ·show(if 10=b then _ else if 10=10 then some (Kq.fin,Qs.row) else _)=_
    rw[Yz (λq=>hb q.symm),YA rfl]
theorem Hi(hab:a≠b)(ha:a≠10)(hb:b≠10){ts:List (Str×Str)}(hk:∀t∈ts,Cw t)(hl:ts=[]\/ts.getLast?=some gc):ng (sg a) (sg b) ("":Str) true true false false ts (cB a b ts):=by
 refine⟨?_,λcs r=>E3 (s:=.row) hab ha hb r⟩
 rcases hl with rfl|hl
 ·exact⟨[],⟨O,O⟩,O⟩
 obtain⟨⟨cs,h1,h2⟩,h3⟩:=E4 hab ha hb hk hl
 unfold cB
 by_cases hS:(cq a b ts).2.2=true
 ·rw[YA hS]
  have hm:eo a b .row b=some (.skip,.within):=by show(if b=10 then _ else if b=b then some (Kq.skip,Qs.within) else _)=_;rw[Yz hb,YA rfl]
  exact⟨b::cs,gF hab hb hm h1,by rw[YY,h2];omega⟩
 ·rw[Yz hS]
  exact h3 (by simpa using hS) .row (.inl rfl)
end
def IC(a b:Nat)(z:Str):Bool:=z.cps.toList.any λc=>(decide (c=a)||decide (c=b)||decide (c=10))
def E5(b:Nat)(z:Str):Nat:=z.cps.toList.countP λc=>decide (c=b)
def jE(a b:Nat)(z:Str):Nat:=z.length+(if IC a b z=true then 2+E5 b z else 0)
def sN(a b:Nat)(r:List Str):Nat:=(r.map λz=>jE a b z+1).sum
section
variable{a b:Nat}
theorem Hj{X:List (Str×Str)}(z:Str):cq a b (kL z++X)=(z.length+E5 b z+(cq a b X).1,z.length+(cq a b X).2.1,IC a b z||(cq a b X).2.2):=by
 have key:∀(l:List Nat),cq a b ((l.map λk=>(Str.ofString "put",sg k))++X)=(l.length+l.countP (λc=>decide (c=b))+(cq a b X).1,l.length+(cq a b X).2.1,(l.any λc=>(decide (c=a)||decide (c=b)||decide (c=10)))||(cq a b X).2.2):=by
  intro l
  induction l with
  |nil=>simp
  |cons c l ih =>
   rw[Zl,List.cons_append,pY,ih,YY,List.countP_cons,List.any_cons]
   dsimp only
   refine Prod.ext ?_ (Prod.ext ?_ ?_)
   ·dsimp only
    by_cases h:c=b
    ·rw[YA h,YA (YJ h)];omega
    ·rw[Yz h,Yz (by rw[YK h];decide)];omega
   ·dsimp only;omega
   ·dsimp only;rw[Bool.or_assoc (decide (c=a)||decide (c=b)||decide (c=10))]
 have e:=key z.cps.toList
 rw[YX]at e
 exact e
theorem wm{t:Str×Str}{Y:List (Str×Str)}(ht:t=di\/t=gc)(z:Str):cB a b (kL z++t::Y)=jE a b z+1+cB a b Y:=by
 rw[show cB a b (kL z++t::Y)=if (cq a b (kL z++t::Y)).2.2=true then 1+(cq a b (kL z++t::Y)).1 else (cq a b (kL z++t::Y)).2.1 from rfl,Hj,kO ht]
 unfold jE
 dsimp only
 rw[Bool.or_false]
 by_cases h:IC a b z=true
 ·rw[YA h,YA h];omega
 ·rw[Yz h,Yz h];omega
theorem zy{t:Str×Str}{Y:List (Str×Str)}(r:List Str):∀(n:Nat),n<r.length->∀{t:Str×Str}{Y:List (Str×Str)},t=di\/t=gc->cB a b (gE r (n+1)++t::Y)=sN a b (r.take (n+1))+cB a b Y
 | 0,hn,t,Y,ht=>by
  obtain⟨z,hz⟩:∃z,r[0]?=some z:=⟨_,YV hn⟩
  rw[eL hz,aM hz]
  show cB a b (([]++([]++kL z))++t::Y)=_
  rw[ZN,ZN,wm ht]
  show _=(jE a b z+1+0)+_
  omega
 |n+1,hn,t,Y,ht=>by
  obtain⟨z,hz⟩:∃z,r[n+1]?=some z:=⟨_,YV hn⟩
  rw[eL hz,aM hz,Yz (by omega),Y8,Y8]
  show cB a b (gE r (n+1)++di::(kL z++t::Y))=_
  rw[zy (t:=t) (Y:=Y) r n (by omega) (.inl rfl),wm ht]
  unfold sN
  rw[YW,Zv]
  show _=_+(jE a b z+1+0)+_
  omega
theorem zz:∀{t:List (List Str)},(∀r∈t,1<=r.length)->cB a b (aR t)=(t.map (sN a b)).sum
 |[],_=>rfl
 |r::t,h=>by
  have h1:=h r (Y6 ..)
  have ih:=zz (t:=t) λr' q=>h r' (YS _ q)
  obtain⟨n,hn⟩:∃n,r.length=n+1:=⟨r.length-1,by omega⟩
  show cB a b (gg r++aR t)=_
  unfold gg
  rw[Y8,hn]
  show cB a b (gE r (n+1)++gc::aR t)=_
  rw[zy (t:=gc) (Y:=[]) r n (by omega) (.inr rfl),ih,Zl,Zy,YR (by omega)]
theorem E6{t:List (List Str)}:∀x∈aR t,Cw x:=by
 have hp:∀z,∀x∈kL z,Cw x:=λz x hx=>by
  obtain⟨c,hc,rfl⟩:=Zx.mp hx
  exact .inl ⟨c,rfl⟩
 have hC:∀(r:List Str) n,n<=r.length->∀x∈gE r n,Cw x:=λr n=>by
  induction n with
  |zero=>intro _ x hx;cases hx
  |succ n ih =>
   intro hn x hx
   obtain⟨z,hz⟩:∃z,r[n]?=some z:=⟨_,YV (by omega)⟩
   rw[eL hz]at hx
   rcases Y3.mp hx with q|q
   ·exact ih (by omega) x q
   rcases Y3.mp q with q|q
   ·split at q
    ·cases q
    ·rw[YF.mp q];exact .inr (.inl rfl)
   ·exact hp z x q
 intro x hx
 obtain⟨r,_,h⟩:=ZG.mp hx
 rcases Y3.mp h with q|q
 ·exact hC r _ (YB _) x q
 ·rw[YF.mp q];exact .inr (.inr rfl)
theorem E7{t:List (List Str)}:aR t=[]\/(aR t).getLast?=some gc:=by
 by_cases h:aR t=[]
 ·exact .inl h
 ·right
  have hl:=List.length_pos_iff.mpr h
  rw[List.getLast?_eq_getElem?]
  exact lR (t:=t) _ (by omega)
theorem E8(hab:a≠b)(ha:a≠10)(hb:b≠10){t:List (List Str)}(h:∀r∈t,1<=r.length):ng (sg a) (sg b) ("":Str) true true false false (aR t) ((t.map (sN a b)).sum):=by
 rw[←zz h]
 exact Hi hab ha hb E6 E7
end
structure wo(H:Hp)(a b:Nat)(z:Str)(t:List (List Str))(L:Addr)(i:Nat)(rr:Addr)(cell:Str)(s:Qs)(es:List V)(row:List Str)(J:Hp):Prop where
 same:aF H J
 tok:∃done rest rows,aR t=done++rest/\BJ a b s rest (z.cps.toList.drop i)/\done.foldl iA JG=⟨rows,row,cell⟩/\Paired (aU J) es rows
 MD:H rr=none
 ME:rr≠L
 hL:J L=some (.lst es)
 hrr:J rr=some (.lst (row.map V.str))
 ne1:V.ref rr∉es
 ne2:V.ref L∉es
 l1:cell.length<=i
 l2:row.length<=i
 l3:es.length<=i
section
variable{H:Hp}{a b:Nat}{z:Str}{t:List (List Str)}{L:Addr}{i:Nat}{rr:Addr}{cell:Str}{s s':Qs}{es:List V}{row:List Str}{J:Hp}{c:Nat}
theorem wo.go(hab:a≠b)(hb:b≠10)(h:wo H a b z t L i rr cell s es row J)(hi:z.cps.toList[i]?=some c):∃k s' done rest rows,eo a b s c=some (k,s')/\aR t=done++rest/\BJ a b s' rest (z.cps.toList.drop (i+1))/\done.foldl iA JG=(AE k c).foldl iA ⟨rows,row,cell⟩/\Paired (aU J) es rows:=by
 obtain⟨done,rest,rows,e1,e2,e3,e4⟩:=h.tok
 have ed:z.cps.toList.drop i=c::z.cps.toList.drop (i+1):=by
  obtain⟨h1,h2⟩:=YG.mp hi
  rw[List.drop_eq_getElem_cons h1,h2]
 rw[ed]at e2
 obtain⟨k,s',rest',hm,er,Ui⟩:=BK hab hb e2
 exact⟨k,s',done++AE k c,rest',rows,hm,by rw[e1,er,Y8],Ui,by rw[Zt,e3],e4⟩
theorem wo.skip(hab:a≠b)(hb:b≠10)(h:wo H a b z t L i rr cell s es row J)(hi:z.cps.toList[i]?=some c)(hm:eo a b s c=some (.skip,s')):wo H a b z t L (i+1) rr cell s' es row J:=by
 obtain⟨k,s2,done,rest,rows,e0,e1,e2,e3,e4⟩:=h.go hab hb hi
 rw[hm]at e0;cases e0
 exact⟨h.same,⟨done,rest,rows,e1,e2,e3,e4⟩,h.MD,h.ME,h.hL,h.hrr,h.ne1,h.ne2,ZU h.l1,ZU h.l2,ZU h.l3⟩
theorem wo.no(hab:a≠b)(hb:b≠10)(h:wo H a b z t L i rr cell s es row J)(hi:z.cps.toList[i]?=some c)(hm:eo a b s c=none):False:=by
 obtain⟨k,s2,done,rest,rows,e0,_⟩:=h.go hab hb hi
 rw[hm]at e0;cases e0
theorem wo.put(hab:a≠b)(hb:b≠10)(h:wo H a b z t L i rr cell s es row J)(hi:z.cps.toList[i]?=some c)(hm:eo a b s c=some (.put,s')):wo H a b z t L (i+1) rr (cell++sg c) s' es row J:=by
 obtain⟨k,s2,done,rest,rows,e0,e1,e2,e3,e4⟩:=h.go hab hb hi
 rw[hm]at e0;cases e0
 have e:iA ⟨rows,row,cell⟩ (Str.ofString "put",sg c)=⟨rows,row,cell++sg c⟩:=by unfold iA;dsimp only;rw[YA (aI _)]
 exact⟨h.same,⟨done,rest,rows,e1,e2,e3.trans e,e4⟩,h.MD,h.ME,h.hL,h.hrr,h.ne1,h.ne2,by rw[cR];show _+1<=_;have:=h.l1;omega,ZU h.l2,ZU h.l3⟩
theorem xr{x:Addr}{o:HO}{R:List (List Str)}:∀{es:List V},V.ref x∉es->∀{R:List (List Str)},Paired (aU J) es R->Paired (aU (upd J x o)) es R
 |_,_,_,.nil=>.nil
 |v::es,hn,_,.cons ⟨u,e1,e2⟩ r=>by
  have hx:u≠x:=λq=>hn (by rw[e1,q];exact Y6 ..)
  exact .cons ⟨u,e1,(az hx).trans e2⟩ (xr (R:=[]) (λq=>hn (YS _ q)) r)
theorem wo.part(hab:a≠b)(hb:b≠10)(h:wo H a b z t L i rr cell s es row J)(hi:z.cps.toList[i]?=some c)(hm:eo a b s c=some (.part,s')):wo H a b z t L (i+1) rr ("":Str) s' es (row++[cell]) (upd J rr (.lst (row.map V.str++[.str cell]))):=by
 obtain⟨k,s2,done,rest,rows,e0,e1,e2,e3,e4⟩:=h.go hab hb hi
 rw[hm]at e0;cases e0
 have e:iA ⟨rows,row,cell⟩ di=⟨rows,row++[cell],("":Str)⟩:=by
  unfold iA
  rw[show di.1=("part":Str) from rfl,Yz (ns (by decide +kernel)),YA (aI _)]
 refine⟨aK h.MD h.same,⟨done,rest,rows,e1,e2,e3.trans e,xr (R:=[]) h.ne1 e4⟩,h.MD,h.ME,(az (ZI h.ME)).trans h.hL,?_,h.ne1,h.ne2,by rw[kJ];exact Zd _,?_,ZU h.l3⟩
 ·rw[aj,YW];rfl
 ·rw[YE];show _+1<=_;have:=h.l2;omega
theorem wo.fin(hab:a≠b)(hb:b≠10)(h:wo H a b z t L i rr cell s es row J)(hLf:H L=none)(hi:z.cps.toList[i]?=some c)(hm:eo a b s c=some (.fin,s')){u r2:Addr}{J2:Hp}(hu:J u=none)(Br:J2=upd (upd J u (.lst (row.map V.str++[.str cell]))) L (.lst (es++[.ref u])))(hr2:J2 r2=none):wo H a b z t L (i+1) r2 ("":Str) s' (es++[.ref u]) [] (upd J2 r2 (.lst [])):=by
 obtain⟨k,s2,done,rest,rows,e0,e1,e2,e3,e4⟩:=h.go hab hb hi
 rw[hm]at e0;cases e0
 have e:iA ⟨rows,row,cell⟩ gc=⟨rows++[row++[cell]],[],("":Str)⟩:=by
  unfold iA
  rw[show gc.1=("end":Str) from rfl,Yz (ns (by decide +kernel)),Yz (ns (by decide +kernel)),YA (aI _)]
 have su:=au (o:=HO.lst (row.map V.str++[.str cell])) hu
 have RY:u≠L:=λq=>by rw[q,h.hL]at hu;cases hu
 have s2:aF H J2:=by rw[Br];exact aK hLf (h.same.trans su)
 have s3:=au (o:=HO.lst []) hr2
 have qL:J2 L=some (.lst (es++[.ref u])):=by rw[Br,aj]
 have qu:J2 u=some (.lst ((row++[cell]).map V.str)):=by rw[Br,az RY,aj,YW];rfl
 have nL:V.ref L∉es++[.ref u]:=λq=>by
  rcases Y3.mp q with q|q
  ·exact h.ne2 q
  ·have q:=YF.mp q
   injection q with q
   exact RY q.symm
 have pe:Paired (aU J2) (es++[.ref u]) (rows++[row++[cell]]):=by
  refine bP ?_ ⟨u,rfl,qu⟩
  rw[Br]
  exact xr (R:=[]) h.ne2 (aB (λa b q=>aU.mono su q) e4)
 have nr:V.ref r2∉es++[.ref u]:=λq=>by
  obtain⟨j,hj⟩:=List.getElem?_of_mem q
  obtain⟨_,_,v,ev,hv⟩:=aP pe j _ hj
  cases ev
  rw[hv]at hr2;cases hr2
 refine⟨s2.trans s3,⟨done,rest,rows++[row++[cell]],e1,e2,e3.trans e,aB (λa b q=>aU.mono s3 q) pe⟩,s2.free hr2,(λq=>by rw[q,qL]at hr2;cases hr2),s3 _ _ qL,aj,nr,nL,by rw[kJ];exact Zd _,Zd _,?_⟩
 rw[YE];show _+1<=_;have:=h.l3;omega
end
theorem E9{c d:Nat}:decide (V.str (sg c)=V.str (sg d))=decide (c=d):=lS
theorem wo.mono{H:Hp}{a b:Nat}{z:Str}{t:List (List Str)}{L:Addr}{i:Nat}{rr:Addr}{cell:Str}{s:Qs}{es:List V}{row:List Str}{J J':Hp}(h:wo H a b z t L i rr cell s es row J)(e:aF J J'):wo H a b z t L i rr cell s es row J':=by
 obtain⟨done,rest,rows,e1,e2,e3,e4⟩:=h.tok
 exact⟨h.same.trans e,⟨done,rest,rows,e1,e2,e3,aB (λa b q=>aU.mono e q) e4⟩,h.MD,h.ME,e _ _ h.hL,e _ _ h.hrr,h.ne1,h.ne2,h.l1,h.l2,h.l3⟩
theorem ID(b:Nat):∀(l:List Nat),PyProof.Rows.cnt b l=((l.countP λc=>decide (c=b):Nat):Int)
 |[]=>rfl
 |n::l=>by
  rw[PyProof.Rows.cnt_cons,ID b l,List.countP_cons]
  by_cases h:n=b
  ·rw[YA h,YA (YJ h)];omega
  ·rw[Yz h,Yz (by rw[YK h];decide)];omega
theorem JN{a b:Nat}{z:Str}:IC a b z=(gG a z||(gG b z||gG 10 z)):=by
 unfold IC
 rw[jC,jC,jC]
 refine Zu.mpr ?_
 simp only[List.any_eq_true,Bool.or_eq_true,ZT]
 constructor
 ·rintro⟨c,hc,(rfl|rfl)|rfl⟩
  ·exact .inl hc
  ·exact .inr (.inl hc)
  ·exact .inr (.inr hc)
 ·rintro(h|h|h)
  ·exact⟨_,h,.inl (.inl rfl)⟩
  ·exact⟨_,h,.inl (.inr rfl)⟩
  ·exact⟨_,h,.inr rfl⟩
theorem BL{a b:Nat}:∀(r:List Str),sN a b r=r.length+(r.map (jE a b)).sum
 |[]=>rfl
 |z::r=>by
  have ih:=BL (a:=a) (b:=b) r
  unfold sN at ih⊢
  rw[Zl,Zy,ih,Zl,Zy,YY]
  omega
def JO(r:List Str):Prop:=1<=r.length/\r.length<=20/\∀c∈r,cy c/\c.length<=2
def zA(n:Int):Nat->Nat
 | 0=>0
 |i+1=>zA n i+(1+(n+7*(i:Int)) % 4).toNat
theorem Cy(n:Int)(i:Nat):zA n (i+4)=zA n i+10:=by
 show zA n i+(1+(n+7*(i:Int)) % 4).toNat+(1+(n+7*((i+1:Nat):Int)) % 4).toNat+(1+(n+7*((i+2:Nat):Int)) % 4).toNat+(1+(n+7*((i+3:Nat):Int)) % 4).toNat=_
 omega
theorem BN(n:Int):∀q r:Nat,r<4->zA n (4*q+r)<=10*q+4*r
 | 0,r,h=>by
  rcases(show r=0\/r=1\/r=2\/r=3 by omega) with rfl|rfl|rfl|rfl
  ·exact YB _
  ·show 0+(1+(n+7*((0:Nat):Int)) % 4).toNat<=_;omega
  ·show 0+(1+(n+7*((0:Nat):Int)) % 4).toNat+(1+(n+7*((1:Nat):Int)) % 4).toNat<=_;omega
  ·show 0+(1+(n+7*((0:Nat):Int)) % 4).toNat+(1+(n+7*((1:Nat):Int)) % 4).toNat+(1+(n+7*((2:Nat):Int)) % 4).toNat<=_;omega
 |q+1,r,h=>by
  have ih:=BN n q r h
  rw[show 4*(q+1)+r=(4*q+r)+4 by omega,Cy]
  omega
theorem Hl{n:Int}{i:Nat}(h:i<=60):zA n i<=152:=by
 have:=BN n (i / 4) (i % 4) (Nat.mod_lt _ (by decide))
 rw[show 4*(i / 4)+i % 4=i by omega]at this
 omega
theorem wu:∀{t:List (List Str)},(∀r∈t,JO r)->total t<=2*cells t
 |[],_=>YB _
 |r::t,h=>by
  have ih:=wu (t:=t) λr' q=>h r' (YS _ q)
  have hr:=h r (Y6 ..)
  have:∀(l:List Str),(∀c∈l,cy c/\c.length<=2)->(lens l).sum<=2*l.length:=λl=>by
   induction l with
   |nil=>intro _;exact YB _
   |cons c l ih =>
    intro hl
    have h1:=ih λc' q=>hl c' (YS _ q)
    have h2:=(hl c (Y6 ..)).2
    show c.length+(lens l).sum<=2*(l.length+1)
    omega
  have:=this r hr.2.2
  show(lens r).sum+total t<=2*(r.length+cells t)
  omega
theorem JP{N:Addr->Prop}{G:Hp}{b:Addr}{r':List Str}:∀{es:List V}{T:List (List Str)}{A:Nat},Paired (jk N G) es T->es.Nodup->es[A]?=some (.ref b)->Paired (jk N (upd G b (.lst (r'.map V.str)))) es (T.set A r')
 |_,_,_,.nil,_,h=>by cases h
 |x::es,r::T,0,.cons ⟨c,e1,e2,e3⟩ p,nd,h=>by
  replace h:x=.ref b:=Y0 h
  rw[e1]at h
  cases h
  have hn:V.ref b∉es:=by rw[←e1];exact(ZK.mp nd).1
  refine .cons ⟨b,e1,e2,aj⟩ ?_
  clear nd
  induction p with
  |nil=>exact .nil
  |@cons y r2 ys T2 h2 p2 ih =>
   obtain⟨d,f1,f2,f3⟩:=h2
   have hd:d≠b:=λq=>hn (by rw[f1,q];exact Y6 ..)
   exact .cons ⟨d,f1,f2,(az hd).trans f3⟩ (ih λq=>hn (YS _ q))
 |x::es,r::T,A+1,.cons ⟨c,e1,e2,e3⟩ p,nd,h=>by
  have RZ:=ZK.mp nd
  have hc:c≠b:=λq=>RZ.1 (by rw[e1,q];exact YT h)
  exact .cons ⟨c,e1,e2,(az hc).trans e3⟩ (JP p RZ.2 h)
theorem pZ:∀{T:List (List Str)}{A:Nat}{r r':List Str},T[A]?=some r->total (T.set A r')+(lens r).sum=total T+(lens r').sum
 |r0::T,0,r,r',h=>by
  have h:r0=r:=Y0 h
  show(lens r').sum+total T+(lens r).sum=(lens r0).sum+total T+(lens r').sum
  rw[h];omega
 |r0::T,A+1,r,r',h=>by
  have ih:=pZ (r':=r') (show T[A]?=some r from h)
  show(lens r0).sum+total (T.set A r')+(lens r).sum=(lens r0).sum+total T+(lens r').sum
  omega
theorem ua:∀{r:List Str}{p:Nat}{z z':Str},r[p]?=some z->(lens (r.set p z')).sum+z.length=(lens r).sum+z'.length
 |c::r,0,z,z',h=>by
  have h:c=z:=Y0 h
  show z'.length+(lens r).sum+z.length=c.length+(lens r).sum+z'.length
  rw[h];omega
 |c::r,p+1,z,z',h=>by
  have ih:=ua (z':=z') (show r[p]?=some z from h)
  show c.length+(lens (r.set p z')).sum+z.length=c.length+(lens r).sum+z'.length
  omega
theorem Ho{xs:List Nat}(nd:xs.Nodup)(hl:xs.length=94)(n0 n1:Int):∃a b,zV xs (n0 % 94)=some a/\zV xs ((n0+1+n1 % 93) % 94)=some b/\a∈xs/\b∈xs/\a≠b:=by
 have h0:=fM (a:=n0) (b:=94) (by decide)
 have h1:=fN (a:=n0) (b:=94) (by decide)
 have h2:=fM (a:=n0+1+n1 % 93) (b:=94) (by decide)
 have h3:=fN (a:=n0+1+n1 % 93) (b:=94) (by decide)
 obtain⟨i,hi⟩:∃i:Nat,n0 % 94=(i:Int):=⟨(n0 % 94).toNat,by omega⟩
 obtain⟨j,hj⟩:∃j:Nat,(n0+1+n1 % 93) % 94=(j:Int):=⟨((n0+1+n1 % 93) % 94).toNat,by omega⟩
 have hij:i≠j:=by omega
 rw[hi,hj]
 have h4:i<xs.length:=by omega
 have h5:j<xs.length:=by omega
 refine⟨xs[i],xs[j],iB (YV h4),iB (YV h5),List.getElem_mem h4,List.getElem_mem h5,λe=>hij ?_⟩
 exact(List.getElem_inj nd).mp e
theorem Fb{a:Nat}(h:Pn a):Sg (sg a):=⟨by show [a].Nodup;simp,λc hc=>by rw[YF.mp (show c∈[a]from hc)];exact h⟩
theorem Pe{a b:Nat}(ha:Pn a)(hb:Pn b):Gd (sg a) (sg b) ("":Str):=⟨Fb ha,Fb hb,⟨by decide +kernel,λc hc=>by rw[sM]at hc;cases hc⟩,by rw[fH];decide,by rw[fH];decide,by rw[fH];decide,by rw[kJ];decide⟩
theorem Fc{a b:Nat}:∀(r:List Str),sN a b r<=3*r.length+2*(lens r).sum
 |[]=>YB _
 |z::r=>by
  have ih:=Fc (a:=a) (b:=b) r
  have hc:E5 b z<=z.length:=by
   have:=List.countP_le_length (p:=λc=>decide (c=b)) (l:=z.cps.toList)
   rw[YX]at this
   exact this
  have e1:sN a b (z::r)=jE a b z+1+sN a b r:=rfl
  have e2:(lens (z::r)).sum=z.length+(lens r).sum:=rfl
  have e3:jE a b z<=2*z.length+2:=by unfold jE;split<;>omega
  rw[e1,e2,YY]
  omega
theorem BO{a b:Nat}:∀{t:List (List Str)},(∀r∈t,r.length<=20)->(t.map (sN a b)).sum<=60*t.length+2*total t
 |[],_=>YB _
 |r::t,h=>by
  have ih:=BO (a:=a) (b:=b) (t:=t) λx hx=>h x (YS _ hx)
  have h1:=h r (Y6 ..)
  have h2:=Fc (a:=a) (b:=b) r
  have e1:((r::t).map (sN a b)).sum=sN a b r+(t.map (sN a b)).sum:=rfl
  have e2:total (r::t)=(lens r).sum+total t:=rfl
  rw[e1,e2,YY]
  omega
def Fd(n:Nat):Str:=if n % 3=0 then Str.ofString "," else Str.ofString ""
def AF(i:Nat):List Str:=(List.range 20).map λj=>Fd (20*i+j)
theorem Hq(i:Nat):zg (AF i):=by
 refine⟨by unfold AF;rw[YC,ZD];decide,by unfold AF;rw[YC,ZD];decide,λc hc=>?_⟩
 obtain⟨j,_,rfl⟩:=Zx.mp hc
 unfold Fd
 split
 ·show ∀k∈_,_;decide +kernel
 ·show ∀k∈_,_;decide +kernel
theorem BP:TabOk ((List.range 60).map AF):=by
 refine⟨by rw[YC,ZD];decide,λr hr=>?_,?_⟩
 ·obtain⟨i,_,rfl⟩:=Zx.mp hr
  exact Hq i
 ·decide +kernel
theorem jU:aG ["sign","number"] ["sign"] (aq gT):=⟨rfl,rfl,rfl,by decide +kernel,rfl,by decide +kernel,by decide +kernel⟩
theorem lX:aG ["thing","least","most"] ["thing","least","most"] (aq cQ):=⟨rfl,rfl,rfl,by decide +kernel,rfl,by decide +kernel,by decide +kernel⟩
theorem gv:aG ["self","parts","quotes","frees","twin","wide","thin","stray","truth"] ["self","parts","quotes","frees","twin","wide","thin","stray"] (aq aY):=⟨rfl,rfl,rfl,by decide +kernel,rfl,by decide +kernel,by decide +kernel⟩
theorem qW:aG ["self"] ["self"] (aq gU):=⟨rfl,rfl,rfl,by decide +kernel,rfl,by decide +kernel,by decide +kernel⟩
theorem uW:aG ["told"] ["told"] (aq jx):=⟨rfl,rfl,rfl,by decide +kernel,rfl,by decide +kernel,by decide +kernel⟩
theorem p6:aG ["self","dialect"] ["self","dialect"] (aq f6):=⟨rfl,rfl,rfl,by decide +kernel,rfl,by decide +kernel,by decide +kernel⟩
theorem nh:aG ["self","dialect","tokens"] ["self","dialect","tokens"] (aq e7):=⟨rfl,rfl,rfl,by decide +kernel,rfl,by decide +kernel,by decide +kernel⟩
theorem sO:aG ["text","found","sign"] ["text"] (aq Aw):=⟨rfl,rfl,rfl,by decide +kernel,rfl,by decide +kernel,by decide +kernel⟩
theorem ni:aG ["self"] ["self"] (aq e9):=⟨rfl,rfl,rfl,by decide +kernel,rfl,by decide +kernel,by decide +kernel⟩
theorem nj:aG ["self","dialect","tokens"] ["self","dialect","tokens"] (aq ff):=⟨rfl,rfl,rfl,by decide +kernel,rfl,by decide +kernel,by decide +kernel⟩
theorem nk:aG ["text"] ["text"] (aq c9):=⟨rfl,rfl,rfl,by decide +kernel,rfl,by decide +kernel,by decide +kernel⟩
theorem AG:aG ["thing"] ["thing"] (aq pQ):=⟨rfl,rfl,rfl,by decide +kernel,rfl,by decide +kernel,by decide +kernel⟩
theorem Cz:aG ["thing"] ["thing"] (aq nT):=⟨rfl,rfl,rfl,by decide +kernel,rfl,by decide +kernel,by decide +kernel⟩
theorem qX:aG ["row"] ["row"] (aq fh):=⟨rfl,rfl,rfl,by decide +kernel,rfl,by decide +kernel,by decide +kernel⟩
theorem zB:aG ["thing"] ["thing"] (aq gW):=⟨rfl,rfl,rfl,by decide +kernel,rfl,by decide +kernel,by decide +kernel⟩
theorem AH:aG ["dialect","state"] ["dialect","state"] (aq pR):=⟨rfl,rfl,rfl,by decide +kernel,rfl,by decide +kernel,by decide +kernel⟩
theorem dO:aG ["row","tokens","place","cell"] ["row"] (aq d8):=⟨rfl,rfl,rfl,by decide +kernel,rfl,by decide +kernel,by decide +kernel⟩
theorem uc:aG ["thing"] ["thing"] (aq iY):=⟨rfl,rfl,rfl,by decide +kernel,rfl,by decide +kernel,by decide +kernel⟩
theorem jF:aG ["table","tokens","row"] ["table"] (aq kF):=⟨rfl,rfl,rfl,by decide +kernel,rfl,by decide +kernel,by decide +kernel⟩
theorem jV:aG ["tokens","count","kind","sign","token"] ["tokens","count","kind","sign"] (aq gX):=⟨rfl,rfl,rfl,by decide +kernel,rfl,by decide +kernel,by decide +kernel⟩
theorem kP:aG ["dialect","state","sign"] ["dialect","state","sign"] (aq dU):=⟨rfl,rfl,rfl,by decide +kernel,rfl,by decide +kernel,by decide +kernel⟩
theorem qb:aG ["dialect","sign"] ["dialect","sign"] (aq f7):=⟨rfl,rfl,rfl,by decide +kernel,rfl,by decide +kernel,by decide +kernel⟩
theorem ud:aG ["dialect","quote","sign"] ["dialect","quote","sign"] (aq iZ):=⟨rfl,rfl,rfl,by decide +kernel,rfl,by decide +kernel,by decide +kernel⟩
theorem uf:aG ["dialect","sign"] ["dialect","sign"] (aq i0):=⟨rfl,rfl,rfl,by decide +kernel,rfl,by decide +kernel,by decide +kernel⟩
theorem qc:aG ["dialect","quote","sign"] ["dialect","quote","sign"] (aq f9):=⟨rfl,rfl,rfl,by decide +kernel,rfl,by decide +kernel,by decide +kernel⟩
theorem uX:aG ["dialect","quote","sign"] ["dialect","quote","sign"] (aq jy):=⟨rfl,rfl,rfl,by decide +kernel,rfl,by decide +kernel,by decide +kernel⟩
theorem jG:aG ["self","state","sign","word","quote"] ["self","state","sign"] (aq kG):=⟨rfl,rfl,rfl,by decide +kernel,rfl,by decide +kernel,by decide +kernel⟩
theorem iJ:aG ["self","state","sign","step"] ["self","state","sign"] (aq fJ):=⟨rfl,rfl,rfl,by decide +kernel,rfl,by decide +kernel,by decide +kernel⟩
theorem c6:aG ["self","mark","sign","step","count"] ["self","mark","sign"] (aq dB):=⟨rfl,rfl,rfl,by decide +kernel,rfl,by decide +kernel,by decide +kernel⟩
theorem jH:aG ["self","mark"] ["self","mark"] (aq cZ):=⟨rfl,rfl,rfl,by decide +kernel,rfl,by decide +kernel,by decide +kernel⟩
theorem gh:aG ["self","place","signs","found"] ["self","place"] (aq dD):=⟨rfl,rfl,rfl,by decide +kernel,rfl,by decide +kernel,by decide +kernel⟩
theorem ou:aG ["self","place"] ["self","place"] (aq fK):=⟨rfl,rfl,rfl,by decide +kernel,rfl,by decide +kernel,by decide +kernel⟩
theorem eO:aG ["first","searched","most","came","edge","place","farther","lead"] ["first","searched","most"] (aq dF):=⟨rfl,rfl,rfl,by decide +kernel,rfl,by decide +kernel,by decide +kernel⟩
theorem jI:aG ["came","place","signs","link"] ["came","place"] (aq pS):=⟨rfl,rfl,rfl,by decide +kernel,rfl,by decide +kernel,by decide +kernel⟩
theorem AI:aG ["tokens","count","row","cell","token"] ["tokens","count"] (aq pT):=⟨rfl,rfl,rfl,by decide +kernel,rfl,by decide +kernel,by decide +kernel⟩
theorem iK:aG ["dialect","table","tokens","found","came","lacking"] ["dialect","table"] (aq m8):=⟨rfl,rfl,rfl,by decide +kernel,rfl,by decide +kernel,by decide +kernel⟩
theorem qY:aG ["_law_script","_law_k"] ["_law_script","_law_k"] (aq gY):=⟨rfl,rfl,rfl,by decide +kernel,rfl,by decide +kernel,by decide +kernel⟩
theorem jc:aG ["_law_number","_law_salt","_law_one","_law_two"] ["_law_number","_law_salt"] (aq jz):=⟨rfl,rfl,rfl,by decide +kernel,rfl,by decide +kernel,by decide +kernel⟩
theorem cY:aG ["_law_cell","_law_many","_law_number","_law_found","_law_k"] ["_law_cell","_law_many"] (aq gC):=⟨rfl,rfl,rfl,by decide +kernel,rfl,by decide +kernel,by decide +kernel⟩
theorem dH:aG ["_law_table_here","_law_tokens_here","_law_row","_law_k","_law_sign"] ["_law_table_here"] (aq i7):=⟨rfl,rfl,rfl,by decide +kernel,rfl,by decide +kernel,by decide +kernel⟩
theorem aS:aG ["_law_part","_law_quote","_law_text","_law_table_here","_law_row","_law_cell","_law_state","_law_sign"] ["_law_part","_law_quote","_law_text"] (aq kH):=⟨rfl,rfl,rfl,by decide +kernel,rfl,by decide +kernel,by decide +kernel⟩
theorem cA:aG ["_law_part","_law_quote","_law_table_here","_law_total","_law_row","_law_cell"] ["_law_part","_law_quote","_law_table_here"] (aq jA):=⟨rfl,rfl,rfl,by decide +kernel,rfl,by decide +kernel,by decide +kernel⟩
theorem aW:aG ["_law_signs_here","_law_xs","_law_many","_law_table_here","_law_k","_law_size","_law_row","_law_j","_law_sign","_law_at","_law_place","_law_rest","_law_two"] ["_law_signs_here","_law_xs"] (aq gD):=⟨rfl,rfl,rfl,by decide +kernel,rfl,by decide +kernel,by decide +kernel⟩
theorem jJ:aG ["_law_script","_law_menu","_law_xs","_law_part","_law_quote","_law_table_here","_law_handed","_law_text","_law_great"] ["_law_script"] (aq mD):=⟨rfl,rfl,rfl,by decide +kernel,rfl,by decide +kernel,by decide +kernel⟩
structure Txt(K:W.Frag)(mg:Str->Option Value)(ay:Nat->Addr)(aO:Nat->FuncData)(dJ:Nat->Str):Prop where
 ia:fu K "is_printable" "is_printable" gT (ay 0) (aO 0)
 kQ:Binds K (aO 0) ["sign"] []
 kR:mg "is_printable"=some (.ref (ay 0))
 cT:fu K "are_unlike_signs" "are_unlike_signs" cQ (ay 1) (aO 1)
 ez:Binds K (aO 1) ["thing","least","most"] []
 eB:mg "are_unlike_signs"=some (.ref (ay 1))
 nq:D6 K "__init__" "Dialect.__init__" aY (ay 2) (aO 2) (.ref (ay 56))
 ic:Binds K (aO 2) ["self","parts","quotes","frees","twin","wide","thin","stray"] []
 ug:fu K "told" "Dialect.told" gU (ay 3) (aO 3)
 uh:Binds K (aO 3) ["self"] []
 um:Meth K (ay 45) "told" (ay 3)
 ow:fu K "dialect_of" "dialect_of" jx (ay 4) (aO 4)
 xu:Binds K (aO 4) ["told"] []
 xw:mg "dialect_of"=some (.ref (ay 4))
 qZ:fu K "__init__" "Turn.__init__" f6 (ay 5) (aO 5)
 rj:Binds K (aO 5) ["self","dialect"] []
 oz:fu K "__init__" "Marker.__init__" e7 (ay 6) (aO 6)
 oA:Binds K (aO 6) ["self","dialect","tokens"] []
 AJ:fu K "once" "once" Aw (ay 7) (aO 7)
 Fe:Binds K (aO 7) ["text"] []
 Ff:mg "once"=some (.ref (ay 7))
 oB:fu K "special" "Dialect.special" e9 (ay 8) (aO 8)
 oE:Binds K (aO 8) ["self"] []
 oF:Meth K (ay 45) "special" (ay 8)
 oG:fu K "__init__" "Writer.__init__" ff (ay 9) (aO 9)
 oH:Binds K (aO 9) ["self","dialect","tokens"] []
 zC:fu K "__init__" "NoWriting.__init__" fX (ay 10) (aO 10)
 zD:Binds K (aO 10) ["self","row","cell"] []
 iL:fu K "has_signs_alone" "has_signs_alone" c9 (ay 11) (aO 11)
 oJ:Binds K (aO 11) ["text"] []
 oK:mg "has_signs_alone"=some (.ref (ay 11))
 wz:fu K "is_cell" "is_cell" pQ (ay 12) (aO 12)
 CA:Binds K (aO 12) ["thing"] []
 CB:mg "is_cell"=some (.ref (ay 12))
 zE:fu K "is_row" "is_row" nT (ay 13) (aO 13)
 Fg:Binds K (aO 13) ["thing"] []
 Fi:mg "is_row"=some (.ref (ay 13))
 kT:fu K "signs_in_row" "signs_in_row" fh (ay 14) (aO 14)
 uq:Binds K (aO 14) ["row"] []
 ur:mg "signs_in_row"=some (.ref (ay 14))
 uu:fu K "is_table" "is_table" gW (ay 15) (aO 15)
 AK:Binds K (aO 15) ["thing"] []
 AL:mg "is_table"=some (.ref (ay 15))
 wA:fu K "is_live" "is_live" pR (ay 16) (aO 16)
 CC:Binds K (aO 16) ["dialect","state"] []
 CD:mg "is_live"=some (.ref (ay 16))
 jW:fu K "tokens_of_row" "tokens_of_row" d8 (ay 17) (aO 17)
 rm:Binds K (aO 17) ["row"] []
 rq:mg "tokens_of_row"=some (.ref (ay 17))
 mF:fu K "check_table" "check_table" iY (ay 18) (aO 18)
 uY:Binds K (aO 18) ["thing"] []
 uZ:mg "check_table"=some (.ref (ay 18))
 iM:fu K "tokens_of" "tokens_of" kF (ay 19) (aO 19)
 kU:Binds K (aO 19) ["table"] []
 kW:mg "tokens_of"=some (.ref (ay 19))
 kX:fu K "count_behind" "count_behind" gX (ay 20) (aO 20)
 uv:Binds K (aO 20) ["tokens","count","kind","sign"] []
 uw:mg "count_behind"=some (.ref (ay 20))
 gw:fu K "step_at_beginning" "step_at_beginning" dU (ay 21) (aO 21)
 lY:Binds K (aO 21) ["dialect","state","sign"] []
 lZ:mg "step_at_beginning"=some (.ref (ay 21))
 jX:fu K "step_in_plain" "step_in_plain" f7 (ay 22) (aO 22)
 rz:Binds K (aO 22) ["dialect","sign"] []
 rA:mg "step_in_plain"=some (.ref (ay 22))
 mG:fu K "step_within" "step_within" iZ (ay 23) (aO 23)
 u0:Binds K (aO 23) ["dialect","quote","sign"] []
 u5:mg "step_within"=some (.ref (ay 23))
 jd:fu K "step_behind" "step_behind" i0 (ay 24) (aO 24)
 mH:Binds K (aO 24) ["dialect","sign"] []
 mJ:mg "step_behind"=some (.ref (ay 24))
 jY:fu K "step_in_doubt" "step_in_doubt" f9 (ay 25) (aO 25)
 rB:Binds K (aO 25) ["dialect","quote","sign"] []
 rC:mg "step_in_doubt"=some (.ref (ay 25))
 oM:fu K "step_freed" "step_freed" jy (ay 26) (aO 26)
 xx:Binds K (aO 26) ["dialect","quote","sign"] []
 xy:mg "step_freed"=some (.ref (ay 26))
 zF:fu K "step" "Turn.step" kG (ay 27) (aO 27)
 zG:Binds K (aO 27) ["self","state","sign"] []
 zH:Meth K (ay 46) "step" (ay 27)
 qd:fu K "live_step" "Turn.live_step" fJ (ay 28) (aO 28)
 qe:Binds K (aO 28) ["self","state","sign"] []
 qf:Meth K (ay 46) "live_step" (ay 28)
 kY:fu K "mark_behind" "Marker.mark_behind" dB (ay 29) (aO 29)
 kZ:Binds K (aO 29) ["self","mark","sign"] []
 k6:Meth K (ay 47) "mark_behind" (ay 29)
 j8:fu K "has_read_all" "Marker.has_read_all" cZ (ay 30) (aO 30)
 j9:Binds K (aO 30) ["self","mark"] []
 kc:Meth K (ay 47) "has_read_all" (ay 30)
 ux:fu K "leads" "Writer.leads" dD (ay 31) (aO 31)
 uy:Binds K (aO 31) ["self","place"] []
 uz:Meth K (ay 48) "leads" (ay 31)
 qg:fu K "is_good" "Writer.is_good" fK (ay 32) (aO 32)
 qh:Binds K (aO 32) ["self","place"] []
 qi:Meth K (ay 48) "is_good" (ay 32)
 zI:D6 K "search" "search" dF (ay 33) (aO 33) (.ref (ay 57))
 MF:Binds K (aO 33) ["first","searched","most"] []
 Fj:mg "search"=some (.ref (ay 33))
 wB:fu K "text_to" "text_to" pS (ay 34) (aO 34)
 CF:Binds K (aO 34) ["came","place"] []
 CG:mg "text_to"=some (.ref (ay 34))
 CH:fu K "cell_at" "cell_at" pT (ay 35) (aO 35)
 Lc:Binds K (aO 35) ["tokens","count"] []
 Ld:mg "cell_at"=some (.ref (ay 35))
 uA:fu K "shortest" "shortest" m8 (ay 36) (aO 36)
 AM:Binds K (aO 36) ["dialect","table"] []
 AO:mg "shortest"=some (.ref (ay 36))
 ie:fu K "_law_cell_at" "_law_cell_at" gY (ay 37) (aO 37)
 k7:Binds K (aO 37) ["_law_script","_law_k"] []
 k8:mg "_law_cell_at"=some (.ref (ay 37))
 oN:fu K "_law_mixed" "_law_mixed" jz (ay 38) (aO 38)
 xA:Binds K (aO 38) ["_law_number","_law_salt"] []
 xB:mg "_law_mixed"=some (.ref (ay 38))
 oO:fu K "_law_drawn" "_law_drawn" gC (ay 39) (aO 39)
 xC:Binds K (aO 39) ["_law_cell","_law_many"] []
 xD:mg "_law_drawn"=some (.ref (ay 39))
 je:fu K "_law_tokens" "_law_tokens" i7 (ay 40) (aO 40)
 mK:Binds K (aO 40) ["_law_table_here"] []
 mL:mg "_law_tokens"=some (.ref (ay 40))
 qM:fu K "_law_read" "_law_read" kH (ay 41) (aO 41)
 zJ:Binds K (aO 41) ["_law_part","_law_quote","_law_text"] []
 zK:mg "_law_read"=some (.ref (ay 41))
 oQ:fu K "_law_signs" "_law_signs" jA (ay 42) (aO 42)
 xE:Binds K (aO 42) ["_law_part","_law_quote","_law_table_here"] []
 xF:mg "_law_signs"=some (.ref (ay 42))
 oR:fu K "_law_table" "_law_table" gD (ay 43) (aO 43)
 xG:Binds K (aO 43) ["_law_signs_here","_law_xs"] []
 xH:mg "_law_table"=some (.ref (ay 43))
 MG:fu K "law" "law" mD (ay 44) (aO 44)
 R0:Binds K (aO 44) ["_law_script"] []
 R1:mg "law"=some (.ref (ay 44))
 aD:Bm K (ay 45)
 wC:mg "Dialect"=some (.ref (ay 45))
 wD:Mk K (ay 45) (ay 2)
 bF:cO K (ay 45) "parts"
 bH:cO K (ay 45) "quotes"
 bz:cO K (ay 45) "frees"
 dI:cO K (ay 45) "twin"
 cI:cO K (ay 45) "wide"
 cJ:cO K (ay 45) "thin"
 cV:cO K (ay 45) "stray"
 fQ:Bm K (ay 46)
 JQ:mg "Turn"=some (.ref (ay 46))
 JR:Mk K (ay 46) (ay 5)
 bw:cO K (ay 46) "dialect"
 fO:Bm K (ay 47)
 Fl:mg "Marker"=some (.ref (ay 47))
 Fo:Mk K (ay 47) (ay 6)
 fR:cO K (ay 47) "turn"
 cW:cO K (ay 47) "tokens"
 dP:Bm K (ay 48)
 Fp:mg "Writer"=some (.ref (ay 48))
 Fq:Mk K (ay 48) (ay 9)
 cX:cO K (ay 48) "marker"
 d9:cO K (ay 48) "tokens"
 fk:cO K (ay 48) "usual"
 qN:∃ds,Vals [V.non] ds/\Binds K (aO 33) ["first","searched","most"] ds
 Ft:mg "DialectError"=some (.ref (ay 49))
 Fv:NK K (ay 49) (ay 50) GY none
 Dn:Ub K (ay 49)
 IE:mg "NoWriting"=some (.ref (ay 51))
 IF:NK K (ay 51) (ay 52) (.ref (ay 49)::GY) (some (.ref (ay 10)))
 Gf:W.keepIn K (.ref (ay 51))=true
 Hr:∃oI:Obj,K.lookup (ay 10)=some oI/\oI.cls=.type "function"
 CI:RO K (ay 51) "row"
 BQ:RO K (ay 51) "cell"
 xJ:mg "all"=none
 Hs:mg "bool"=none
 xK:mg "enumerate"=none
 Fw:mg "int"=none
 cC:mg "isinstance"=none
 cD:mg "len"=none
 xM:mg "list"=none
 JS:mg "ord"=none
 ig:mg "range"=none
 zL:mg "reversed"=none
 AQ:mg "str"=none
 AR:mg "sum"=none
 Fx:mg "tuple"=none
 jK:∃t,mg "LINE"=some (.str (dJ 0) t)
 iN:(dJ 0)=("\n":Str)
 xN:∃t,mg "MOST_ROWS"=some (.int 60 t)
 u6:∃t,mg "MOST_CELLS"=some (.int 20 t)
 fm:∃t,mg "MOST_SIGNS_IN_CELLS"=some (.int 400 t)
 k9:mg "START"=some (.ref (ay 53))
 lg:∃(o:Obj)(its:Array Value)(n:Nat),K.lookup (ay 53)=some o/\o.cls=.type "tuple"/\o.data=.seq its n/\its.size<=sizeLine/\Vals [.str ("row":Str),.str ("":Str)] its.toList
 Ht:mg "PART"=some (.ref (ay 54))
 Hu:∃(o:Obj)(its:Array Value)(n:Nat),K.lookup (ay 54)=some o/\o.cls=.type "tuple"/\o.data=.seq its n/\its.size<=sizeLine/\Vals [.str ("part":Str),.str ("":Str)] its.toList
 JT:mg "END"=some (.ref (ay 55))
 JU:∃(o:Obj)(its:Array Value)(n:Nat),K.lookup (ay 55)=some o/\o.cls=.type "tuple"/\o.data=.seq its n/\its.size<=sizeLine/\Vals [.str ("end":Str),.str ("":Str)] its.toList
section
variable{P:Program}{w:World}{K:W.Frag}{mg:Str->Option Value}{base:Heap}{ay:Nat->Addr}{aO:Nat->FuncData}{dJ:Nat->Str}
def rD:Sp:=λvs H Q _=>∃c:Nat,vs=[.str (sg c)]/\Pn c/\Q (.bl true) H
section
variable(T:Txt K mg ay aO dJ)
include T
theorem jZ:bD P w K mg base fT 1 (ay 0) (aO 0) ["sign"] rD:=by
 refine T.ia.ok jU (λvs H Q E h=>?_) (λcdv A outer s H vs Q E hr h=>?_)
 ·obtain⟨c,rfl,_⟩:=h;rfl
 ·have hu:=bh hr
  have iz:=hr.aQ
  obtain⟨c,rfl,⟨h1,h2,h3⟩,k⟩:=h
  refine⟨_,(ah (d7 1 jU.nd (kq DH T.JS (af (pv 0) ai)))
   (ak (aA (z4 (Gb LR (pv 1) ao) (z4 (Gb Ij (pv 1) ao) (z3 (Gb DF (pv 1) ao))))))),?_⟩
  refine⟨_,O,_,O,O,?_⟩
  refine⟨_,O,_,_,O,O,_,O,Mt (by show(32:Int)<=((c:Nat):Int);omega) ?_⟩
  refine⟨_,O,_,_,O,O,_,O,Mt (by show((c:Nat):Int)<=126;omega) ?_⟩
  refine⟨_,O,O,?_⟩
  have e:¬(V.int ((c:Nat):Int)=V.int 37):=λz=>h3 (by injection z with z;omega)
  have e2:(!decide (V.int ((c:Nat):Int)=V.int 37))=true:=by rw[YK e];rfl
  show Q (.bl (!decide (V.int ((c:Nat):Int)=V.int 37))) H
  rw[e2]
  exact k
def mh:Sp:=λvs H Q _=>∃(z:Str)(lo hi:Int),vs=[.str z,.int lo,.int hi]/\Sg z/\lo<=z.length/\(z.length:Int)<=hi/\z.length<=1000/\∀H',aF H H'->Q (.bl true) H'
theorem mj:bD P w K mg base fT 2 (ay 1) (aO 1) ["thing","least","most"] mh:=by
 have iw:=@jZ P w K mg base ay aO dJ T
 refine T.cT.ok lX (λvs H Q E h=>?_) (λcdv A outer s H vs Q E hr h=>?_)
 ·obtain⟨z,lo,hi,rfl,_⟩:=h;rfl
 ·have hu:=bh hr
  have iz:=hr.aQ
  obtain⟨z,lo,hi,rfl,g,hlo,hhi,hz,k⟩:=h
  have Fy:z.length<=sizeLine:=YU hz (by decide)
  refine⟨_,(ah (aN (PW.pt (gu (dQ (cG (kq (gB K rfl) T.cC (af (pv 0) (af (JD "str" T.AQ) ai))))) (gu (eH yH (kq bI T.cD (af (pv 0) ai)) (pv 1)) (fZ (eH sQ (kq bI T.cD (af (pv 0) ai)) (pv 2)))))) (ak (aA jh)) aC)
   (ak (aA (kq (lM K rfl rfl) T.xJ (af (eZ rfl (show bq ["thing","least","most"] (aq cQ) ["sign","thing"] 1 [0] _ from Dj) (mZ (pv 0)) (λ_ _ _ _=>(m6 0 (show(["sign","thing"]:List Str).Nodup by decide +kernel))) (λ_ _ _ _=>dM) (λ_ _ _ _=>(z4 (jS iw hr T.kR T.ia.kp T.kQ (af (pv 0) ai)) (z3 (Gb bB (dw K rfl PySem.F.plainAttrs_str PySem.F.slot_str_count PySem.F.type_str_count yM (pv 1) (af (pv 0) ai)) ao))))) ai))))),?_⟩
  refine⟨_,O,_,_,_,true,O,.str _,.inl ⟨_,O,O⟩,true,O,cU ?_⟩
  refine⟨_,O,z,O,Fy,_,O,_,_,O,O,_,O,Ey (by omega) ?_⟩
  refine⟨_,O,z,O,Fy,_,O,_,_,O,O,_,O,Ey (by omega) ?_⟩
  refine⟨_,O,z,O,λD hD=>?_⟩
  have hsz:z.cps.toList.length=z.length:=by rw[YX];rfl
  refine nO (λi ys τ H2=>(∃v,τ=[v,some (.str z)])/\aF H H2/\H2 D=some (.lst ys)/\ys=(List.replicate i true).map V.bl) ⟨⟨_,rfl⟩,au hD,aj,rfl⟩ (λi ys τ H2 _ p=>p.2.2.1) ?_ ?_
  ·rintro i c ys τ H2 hi ⟨⟨v,rfl⟩,s2,hl,rfl⟩
   have hc:c∈z.cps.toList:=YT hi
   have hil:i<z.cps.toList.length:=(YG.mp hi).1
   refine pU ?_
   refine⟨_,O,c,O,g.pr c hc,true,O,kC ?_⟩
   refine⟨_,O,O,_,O,z,c,O,O,O,?_⟩
   have e:decide (V.int (PyProof.Rows.cnt c z.cps.toList)=V.int 1)=true:=by rw[Bv g.nd hc];exact YJ rfl
   rw[e]
   refine⟨hl,?_,⟨_,O⟩,aK hD s2,aj,?_⟩
   ·rw[YC,Zo]
    exact YZ (show i<1001 by omega) (by decide)
   ·rw[List.replicate_succ',YW];rfl
  ·rintro ys τ H2 ⟨⟨v,rfl⟩,s2,hl,rfl⟩
   refine⟨D,List.replicate _ true,O,aX.of hl,?_⟩
   have e:(List.replicate z.cps.toList.length true).all id=true:=by
    rw[Zs]
    intro b hb
    exact(List.mem_replicate.mp hb).2
   rw[e]
   exact k H2 s2
def mq(C:Addr):Sp:=λvs H Q _=>∃(x dx:Addr)(p q f:Str)(b1 b2 b3 b4:Bool),vs=.ref x::zb p q f b1 b2 b3 b4/\H x=some (.ins C dx [])/\Gd p q f/\∀H',H' x=some (.ins C dx (yu p q f b1 b2 b3 b4))->(∀b o,H b=some o->b≠x->H' b=some o)->Q .non H'
theorem gy:bD P w K mg base fT 3 (ay 2) (aO 2) ["self","parts","quotes","frees","twin","wide","thin","stray"] (mq (ay 45)):=by
 have eF:=@mj P w K mg base ay aO dJ T
 refine T.nq.ok gv (λvs H Q E h=>?_) (λcdv A outer s H vs Q E hr h=>?_)
 ·obtain⟨x,dx,p,q,f,b1,b2,b3,b4,rfl,_⟩:=h;rfl
 ·have hu:=bh hr
  have iz:=hr.aQ
  obtain⟨x,dx,p,q,f,b1,b2,b3,b4,rfl,hx,g,k⟩:=h
  have hp1:=g.p1;have hp3:=g.p3;have hq2:=g.q2;have hf2:=g.f2
  refine⟨_,(ah (aN (dQ (cG (jS eF hr T.eB T.cT.kp T.ez (af (pv 1) (af ao (af ao ai)))))) (ak fS) aC)
   (ah (aN (dQ (cG (jS eF hr T.eB T.cT.kp T.ez (af (pv 2) (af ao (af ao ai)))))) (ak fS) aC)
   (ah (aN (dQ (cG (jS eF hr T.eB T.cT.kp T.ez (af (pv 3) (af ao (af ao ai)))))) (ak fS) aC)
   (ah (dR Zh rfl (GQ K rfl (aH (af (pv 4) (af (pv 5) (af (pv 6) (af (pv 7) ai)))))) (m6 8 gv.nd)
   (ak (aN (dQ (cG (kq (gB K rfl) T.cC (af (pv 8) (af (JD "bool" T.Hs) ai))))) (ak fS) aC)))
   (ah (fF (pv 0) (pv 1) rfl)
   (ah (fF (pv 0) (pv 2) rfl)
   (ah (fF (pv 0) (pv 3) rfl)
   (ah (fF (pv 0) (pv 4) rfl)
   (ah (fF (pv 0) (pv 5) rfl)
   (ah (fF (pv 0) (pv 6) rfl)
   (ak (fF (pv 0) (pv 7) rfl)))))))))))),?_⟩
  refine⟨_,O,p,1,3,O,g.gp,by omega,by omega,by omega,λH1 s1=>⟨true,O,cU ?_⟩⟩
  refine⟨_,O,q,0,2,O,g.gq,by omega,by omega,by omega,λH2 s2=>⟨true,O,cU ?_⟩⟩
  refine⟨_,O,f,0,2,O,g.gf,by omega,by omega,by omega,λH3 s3=>⟨true,O,cU ?_⟩⟩
  refine⟨_,O,_,O,_,O,_,O,(by show 4<=sizeLine;decide),λt ht=>⟨t,O,⟨_,bU.of aj⟩,?_⟩⟩
  have Pf:aF H (upd H3 t (.tup [.bl b1,.bl b2,.bl b3,.bl b4])):=((s1.trans s2).trans s3).trans (au ht)
  have R3:(upd H3 t (.tup [.bl b1,.bl b2,.bl b3,.bl b4])) t=some (.tup [.bl b1,.bl b2,.bl b3,.bl b4]):=aj
  generalize upd H3 t (.tup [.bl b1,.bl b2,.bl b3,.bl b4])=H4 at Pf R3⊢
  refine Gu (K:=K) (a:=t) (xs:=[.bl b1,.bl b2,.bl b3,.bl b4]) (λi σ H5=>H5=H4/\∃v,σ=[some (.ref x),some (.str p),some (.str q),some (.str f),some (.bl b1),some (.bl b2),some (.bl b3),some (.bl b4),v]) ⟨rfl,_,rfl⟩ (λi σ H5 _ q=>by rw[q.1];exact bU.of R3) ?_ ?_
  ·rintro i y σ H5 hi ⟨rfl,v,rfl⟩
   obtain⟨b,rfl⟩:∃b,y=V.bl b:=by
    have Uj:i<4:=(YG.mp hi).1
    match i,Uj,hi with
    | 0,_,hi=>exact⟨_,(Y0 hi).symm⟩
    | 1,_,hi=>exact⟨_,(Y0 hi).symm⟩
    | 2,_,hi=>exact⟨_,(Y0 hi).symm⟩
    | 3,_,hi=>exact⟨_,(Y0 hi).symm⟩
   refine⟨_,O,_,_,_,true,O,.bl _,.inl ⟨_,O,O⟩,true,O,cU ?_⟩
   exact⟨O,_,O⟩
  ·rintro σ H5 ⟨rfl,v,rfl⟩
   have Uk:=Pf _ _ hx
   refine⟨_,O,_,O,x,(ay 45),dx,_,O,Uk,T.aD,T.bF,(by show 0<1000;decide),_,O,_,O,x,(ay 45),dx,_,O,aj,T.aD,T.bH,(by show 1<1000;decide),_,O,_,O,x,(ay 45),dx,_,O,aj,T.aD,T.bz,(by show 2<1000;decide),_,O,_,O,x,(ay 45),dx,_,O,aj,T.aD,T.dI,(by show 3<1000;decide),_,O,_,O,x,(ay 45),dx,_,O,aj,T.aD,T.cI,(by show 4<1000;decide),_,O,_,O,x,(ay 45),dx,_,O,aj,T.aD,T.cJ,(by show 5<1000;decide),_,O,_,O,x,(ay 45),dx,_,O,aj,T.aD,T.cV,(by show 6<1000;decide),?_⟩
   refine k _ aj λb o e hb=>?_
   rw[az hb,az hb,az hb,az hb,az hb,az hb,az hb]
   exact Pf _ _ e
def rE(C:Addr):Sp:=λvs H Q _=>∃(x dx:Addr)(p q f:Str)(b1 b2 b3 b4:Bool),vs=[.ref x]/\H x=some (.ins C dx (yu p q f b1 b2 b3 b4))/\∀t,H t=none->Q (.ref t) (upd H t (.tup (zb p q f b1 b2 b3 b4)))
theorem rF:bD P w K mg base fT 1 (ay 3) (aO 3) ["self"] (rE (ay 45)):=by
 refine T.ug.ok qW (λvs H Q E h=>?_) (λcdv A outer s H vs Q E hr h=>?_)
 ·obtain⟨x,dx,p,q,f,b1,b2,b3,b4,rfl,_⟩:=h;rfl
 ·have hu:=bh hr
  have iz:=hr.aQ
  obtain⟨x,dx,p,q,f,b1,b2,b3,b4,rfl,hx,k⟩:=h
  refine⟨_,(ak (aA (aH (af (aJ K rfl (pv 0) rfl) (af (aJ K rfl (pv 0) rfl) (af (aJ K rfl (pv 0) rfl) (af (aJ K rfl (pv 0) rfl) (af (aJ K rfl (pv 0) rfl) (af (aJ K rfl (pv 0) rfl) (af (aJ K rfl (pv 0) rfl) ai)))))))))),?_⟩
  refine⟨_,O,x,(ay 45),dx,_,_,O,hx,T.aD,T.bF,O,_,O,x,(ay 45),dx,_,_,O,hx,T.aD,T.bH,O,_,O,x,(ay 45),dx,_,_,O,hx,T.aD,T.bz,O,_,O,x,(ay 45),dx,_,_,O,hx,T.aD,T.dI,O,_,O,x,(ay 45),dx,_,_,O,hx,T.aD,T.cI,O,_,O,x,(ay 45),dx,_,_,O,hx,T.aD,T.cJ,O,_,O,x,(ay 45),dx,_,_,O,hx,T.aD,T.cV,O,(by show 7<=sizeLine;decide),λt ht=>?_⟩
  exact k t ht
def u7(C:Addr):Sp:=λvs H Q _=>∃(t:Addr)(p q f:Str)(b1 b2 b3 b4:Bool),vs=[.ref t]/\H t=some (.tup (zb p q f b1 b2 b3 b4))/\Gd p q f/\∀(x dx:Addr)(H':Hp),H x=none->H' x=some (.ins C dx (yu p q f b1 b2 b3 b4))->aF H H'->Q (.ref x) H'
theorem u9:bD P w K mg base fT 5 (ay 4) (aO 4) ["told"] (u7 (ay 45)):=by
 have eG:=@gy P w K mg base ay aO dJ T
 refine T.ow.ok uW (λvs H Q E h=>?_) (λcdv A outer s H vs Q E hr h=>?_)
 ·obtain⟨t,p,q,f,b1,b2,b3,b4,rfl,_⟩:=h;rfl
 ·have hu:=bh hr
  have iz:=hr.aQ
  obtain⟨t,p,q,f,b1,b2,b3,b4,rfl,ht,g,k⟩:=h
  have hS:bU K H t (zb p q f b1 b2 b3 b4):=bU.of ht
  refine⟨_,(ah (aN (PW.pt (gu (dQ (cG (kq (kE K rfl) T.cC (af (pv 0) (af (JD "tuple" T.Fx) ai))))) (fZ (eH DF (kq (bu K rfl) T.cD (af (pv 0) ai)) ao)))) (ak fS) aC)
   (ak (aA (nM (k:=3) T.wD eG (hr.mono (by decide)) rfl T.wC T.ic .nil gK (af (nG K (pv 0) ao) (af (nG K (pv 0) ao) (af (nG K (pv 0) ao) (af (nG K (pv 0) ao) (af (nG K (pv 0) ao) (af (nG K (pv 0) ao) (af (nG K (pv 0) ao) ai))))))))))),?_⟩
  refine⟨_,O,t,_,_,true,O,.inl ⟨hS,O⟩,true,O,cU ?_⟩
  refine⟨_,O,t,_,O,.inr hS,O,_,O,L5 rfl ?_⟩
  refine⟨_,O,t,_,_,_,O,O,hS,O,_,O,t,_,_,_,O,O,hS,O,_,O,t,_,_,_,O,O,hS,O,_,O,t,_,_,_,O,O,hS,O,_,O,t,_,_,_,O,O,hS,O,_,O,t,_,_,_,O,O,hS,O,_,O,t,_,_,_,O,O,hS,O,λx dx hx hdx ne=>?_⟩
  refine⟨x,dx,p,q,f,b1,b2,b3,b4,O,aj,g,λH2 h2 kp=>⟨O,k x dx H2 hx h2 λb o e=>kp b o ?_ (aT e hx)⟩⟩
  rw[az (aT e hx),az (aT e hdx)]
  exact e
def qj(C CT:Addr):Sp:=λvs H Q _=>∃(y dy x dx:Addr)(p q f:Str)(b1 b2 b3 b4:Bool),vs=[.ref y,.ref x]/\H y=some (.ins CT dy [])/\H x=some (.ins C dx (yu p q f b1 b2 b3 b4))/\Gd p q f/\∀H',Tn C CT H' y p q f b1 b2 b3 b4->(∀b o,H b=some o->b≠y->H' b=some o)->Q .non H'
theorem qk:bD P w K mg base fT 6 (ay 5) (aO 5) ["self","dialect"] (qj (ay 45) (ay 46)):=by
 have uB:=@rF P w K mg base ay aO dJ T
 have xO:=@u9 P w K mg base ay aO dJ T
 refine T.qZ.ok p6 (λvs H Q E h=>?_) (λcdv A outer s H vs Q E hr h=>?_)
 ·obtain⟨y,dy,x,dx,p,q,f,b1,b2,b3,b4,rfl,_⟩:=h;rfl
 ·have hu:=bh hr
  have iz:=hr.aQ
  obtain⟨y,dy,x,dx,p,q,f,b1,b2,b3,b4,rfl,hy,hx,g,k⟩:=h
  refine⟨_,(ak (fF (pv 0) (jS xO hr T.xw T.ow.kp T.xu (af (yI (k:=1) (pv 1) T.aD T.um uB (hr.mono (by decide)) T.uh .nil gK) ai)) rfl)),?_⟩
  refine⟨_,O,x,dx,_,O,hx,O,x,dx,p,q,f,b1,b2,b3,b4,O,hx,λt ht=>?_⟩
  have s1:=au (o:=HO.tup (zb p q f b1 b2 b3 b4)) ht
  refine⟨t,p,q,f,b1,b2,b3,b4,O,aj,g,λd dd H2 hd h2 s2=>?_⟩
  have s12:=s1.trans s2
  have Ul:d≠y:=λe=>by subst e;rw[s1 _ _ hy]at hd;cases hd
  refine⟨_,O,y,(ay 46),dy,_,O,s12 _ _ hy,T.fQ,T.bw,(by show 0<1000;decide),?_⟩
  refine k _ ⟨⟨dy,d,dd,aj,(az Ul).trans h2⟩⟩ λb o e hb=>(az hb).trans (s12 _ _ e)
def nt(K:W.Frag)(C CT CM:Addr):Sp:=λvs H Q _=>∃(m dm x dx l:Addr)(ys:List V)(ts:List (Str×Str))(p q f:Str)(b1 b2 b3 b4:Bool),vs=[.ref m,.ref x,.ref l]/\H m=some (.ins CM dm [])/\H x=some (.ins C dx (yu p q f b1 b2 b3 b4))/\Gd p q f/\H l=some (.lst ys)/\Paired (bW K H) ys ts/\∀H',Cs K C CT CM H' m p q f b1 b2 b3 b4 ts->(∀b o,H b=some o->b≠m->H' b=some o)->Q .non H'
theorem nu:bD P w K mg base fT 8 (ay 6) (aO 6) ["self","dialect","tokens"] (nt K (ay 45) (ay 46) (ay 47)):=by
 have rG:=@qk P w K mg base ay aO dJ T
 refine T.oz.ok nh (λvs H Q E h=>?_) (λcdv A outer s H vs Q E hr h=>?_)
 ·obtain⟨m,dm,x,dx,l,ys,ts,p,q,f,b1,b2,b3,b4,rfl,_⟩:=h;rfl
 ·have hu:=bh hr
  have iz:=hr.aQ
  obtain⟨m,dm,x,dx,l,ys,ts,p,q,f,b1,b2,b3,b4,rfl,hm,hx,g,hl,tp,k⟩:=h
  refine⟨_,(ah (fF (pv 0) (nM (k:=6) T.JR rG (hr.mono (by decide)) rfl T.JQ T.rj .nil gK (af (pv 1) ai)) rfl)
   (ak (fF (pv 0) (pv 2) rfl))),?_⟩
  refine⟨_,O,λy dy hy La ne=>⟨y,dy,x,dx,p,q,f,b1,b2,b3,b4,O,aj,kI hy La hx,g,λH2 hT kp=>⟨O,?_⟩⟩⟩
  have s2:=pV hy La kp
  have hm2:=s2 _ _ hm
  refine⟨_,O,m,(ay 47),dm,_,O,hm2,T.fO,T.fR,(by show 0<1000;decide),?_⟩
  refine⟨_,O,_,O,m,(ay 47),dm,_,O,aj,T.fO,T.cW,(by show 1<1000;decide),?_⟩
  have R4:l≠m:=λq=>by rw[q,hm]at hl;cases hl
  refine k _ ⟨dm,y,l,ys,aj,?_,(az R4).trans ((az R4).trans (s2 _ _ hl)),g7 aj (g7 hm2 (eN s2 tp))⟩ λb o e hb=>(az hb).trans ((az hb).trans (s2 _ _ e))
  refine Tn.off aj ?_ ?_ (Tn.off hm2 ?_ ?_ hT)
  ·intro d fs q;injection q with q1 q2 q3;injection q3 with q4 q5;injection q4 with q6 q7;exact absurd q6 (by decide +kernel)
  ·intro d q;injection q with q1 q2 q3;injection q3 with q4 q5;injection q4 with q6 q7;exact absurd q6 (by decide +kernel)
  ·intro d fs q;injection q with q1 q2 q3;cases q3
  ·intro d q;injection q with q1 q2 q3;cases q3
def Hv:Sp:=λvs H Q _=>∃z:Str,vs=[.str z]/\z.length<=4000/\Q (.str (iH z)) H
theorem BR:bD P w K mg base fT 1 (ay 7) (aO 7) ["text"] Hv:=by
 refine T.AJ.ok sO (λvs H Q E h=>?_) (λcdv A outer s H vs Q E hr h=>?_)
 ·obtain⟨z,rfl,_⟩:=h;rfl
 ·have hu:=bh hr
  have iz:=hr.aQ
  obtain⟨z,rfl,Le,k⟩:=h
  have e0:Str.ofString ""=⟨(g5 []).toArray⟩:=by decide +kernel
  have e0:([some (V.str z),some (V.str ("":Str)),none]:St)=[some (.str z),some (.str ⟨(g5 []).toArray⟩),none]:=by rw[e0]
  refine⟨_,(ah (d7 1 sO.nd av)
   (ah (dR Zh rfl (mZ (pv 0)) (m6 2 sO.nd)
   (ak (aN (c7 nN (pv 2) (pv 1) rfl) (ak (d7 1 sO.nd (aE bQ (pv 1) (pv 2)))) aC)))
   (ak (aA (pv 1))))),?_⟩
  refine⟨_,O,_,O,?_⟩
  unfold iH at k
  refine wY (λi σ H2=>H2=H/\∃v,σ=[some (.str z),some (.str ⟨(g5 (z.cps.toList.take i)).toArray⟩),v]) ⟨rfl,none,by rw[List.take_zero];exact e0⟩ ?_ ?_
  ·rintro i c σ H2 hi ⟨rfl,v,rfl⟩
   have hl:(g5 (z.cps.toList.take i)).length<=4000:=by
    refine YU (vV _) ?_
    rw[Zn,YX]
    have:z.cps.size<=4000:=Le
    omega
   refine⟨_,O,_,O,_,_,O,O,_,O,?_⟩
   refine bY (λha=>?_) (λha=>?_)
   ·have ha':away ⟨(g5 (z.cps.toList.take i)).toArray⟩ c=true:=ha
    refine⟨_,O,_,O,_,_,O,O,?_,O,some (.str (sg c)),?_⟩
    ·refine YU (show _<=4001 from ?_) (by decide)
     show Array.size _+1<=4001
     rw[YH];omega
    ·rw[take_snoc hi,tR]
     unfold jT
     rw[YA ha',←GN]
     rfl
   ·have ha':¬away ⟨(g5 (z.cps.toList.take i)).toArray⟩ c=true:=ha
    refine⟨O,some (.str (sg c)),?_⟩
    rw[take_snoc hi,tR]
    unfold jT
    rw[Yz ha']
    rfl
  ·rintro σ H2 ⟨rfl,v,rfl⟩
   refine⟨_,O,?_⟩
   rw[YR (YB _)]
   exact k
def ny(C:Addr):Sp:=λvs H Q _=>∃(x dx:Addr)(p q f:Str)(b1 b2 b3 b4:Bool),vs=[.ref x]/\H x=some (.ins C dx (yu p q f b1 b2 b3 b4))/\Gd p q f/\Q (.str (iH ((p++q)++f))) H
theorem nA:bD P w K mg base fT 2 (ay 8) (aO 8) ["self"] (ny (ay 45)):=by
 have AS:=@BR P w K mg base ay aO dJ T
 refine T.oB.ok ni (λvs H Q E h=>?_) (λcdv A outer s H vs Q E hr h=>?_)
 ·obtain⟨x,dx,p,q,f,b1,b2,b3,b4,rfl,_⟩:=h;rfl
 ·have hu:=bh hr
  have iz:=hr.aQ
  obtain⟨x,dx,p,q,f,b1,b2,b3,b4,rfl,hx,g,k⟩:=h
  have hp3:=g.p3;have hq2:=g.q2;have hf2:=g.f2
  refine⟨_,(ak (aA (jS AS hr T.Ff T.AJ.kp T.Fe (af (aE bQ (aE bQ (aJ K rfl (pv 0) rfl) (aJ K rfl (pv 0) rfl)) (aJ K rfl (pv 0) rfl)) ai)))),?_⟩
  refine⟨_,O,x,(ay 45),dx,_,_,O,hx,T.aD,T.bF,O,_,O,x,(ay 45),dx,_,_,O,hx,T.aD,T.bH,O,_,_,O,O,YU (show p.length+q.length<=5 by omega) (by decide),_,O,x,(ay 45),dx,_,_,O,hx,T.aD,T.bz,O,_,_,O,O,?_,_,O,?_,k⟩
  ·rw[cR];exact YU (show p.length+q.length+f.length<=7 by omega) (by decide)
  ·rw[cR,cR];omega
def nB(K:W.Frag)(C CT CM CW:Addr):Sp:=λvs H Q _=>∃(z dz x dx l:Addr)(ys:List V)(ts:List (Str×Str))(p q f:Str)(b1 b2 b3 b4:Bool),vs=[.ref z,.ref x,.ref l]/\H z=some (.ins CW dz [])/\H x=some (.ins C dx (yu p q f b1 b2 b3 b4))/\Gd p q f/\H l=some (.lst ys)/\Paired (bW K H) ys ts/\∀H',JH K C CT CM CW H' z p q f b1 b2 b3 b4 ts->(∀b o,H b=some o->b≠z->H' b=some o)->Q .non H'
theorem nC:bD P w K mg base fT 10 (ay 9) (aO 9) ["self","dialect","tokens"] (nB K (ay 45) (ay 46) (ay 47) (ay 48)):=by
 have oS:=@nA P w K mg base ay aO dJ T
 have oU:=@nu P w K mg base ay aO dJ T
 refine T.oG.ok nj (λvs H Q E h=>?_) (λcdv A outer s H vs Q E hr h=>?_)
 ·obtain⟨z,dz,x,dx,l,ys,ts,p,q,f,b1,b2,b3,b4,rfl,_⟩:=h;rfl
 ·have hu:=bh hr
  have iz:=hr.aQ
  obtain⟨z,dz,x,dx,l,ys,ts,p,q,f,b1,b2,b3,b4,rfl,hz,hx,g,hl,tp,k⟩:=h
  refine⟨_,(ah (fF (pv 0) (nM (k:=8) T.Fo oU (hr.mono (by decide)) rfl T.Fl T.oA .nil gK (af (pv 1) (af (pv 2) ai))) rfl)
   (ah (fF (pv 0) (pv 2) rfl)
   (ak (fF (pv 0) (aE bQ (aE bQ (yI (k:=2) (pv 1) T.aD T.oF oS (hr.mono (by decide)) T.oE .nil gK) (jt rfl T.jK.choose_spec)) av) rfl)))),?_⟩
  refine⟨_,O,_,O,λm dm hm NL ne=>⟨m,dm,x,dx,l,ys,ts,p,q,f,b1,b2,b3,b4,O,aj,kI hm NL hx,g,kI hm NL hl,eN (vW hm NL) tp,λH2 hM kp=>⟨O,?_⟩⟩⟩
  have s2:=pV hm NL kp
  have hz2:=s2 _ _ hz
  refine⟨_,O,z,(ay 48),dz,_,O,hz2,T.dP,T.cX,(by show 0<1000;decide),?_⟩
  refine⟨_,O,_,O,z,(ay 48),dz,_,O,aj,T.dP,T.d9,(by show 1<1000;decide),?_⟩
  have nx:x≠z:=λq=>by rw[q,hz]at hx;injection hx with hx;injection hx with h1 h2 h3;cases h3
  have nl:l≠z:=λq=>by rw[q,hz]at hl;cases hl
  have R5:=(az (o:=HO.ins (ay 48) dz [("marker",V.ref m),("tokens",V.ref l)]) nx).trans ((az (o:=HO.ins (ay 48) dz [("marker",V.ref m)]) nx).trans (s2 _ _ hx))
  have sl:=pX ((p++q)++f)
  have a1:=cR p q
  have a2:=cR (p++q) f
  have hp3:=g.p3;have hq2:=g.q2;have hf2:=g.f2
  have zl:(dJ 0).length=1:=by rw[T.iN];decide +kernel
  have Yo:(" ":Str).length=1:=by decide +kernel
  have a3:=cR (iH ((p++q)++f)) (dJ 0)
  have MH:1000<=sizeLine:=by decide
  refine⟨_,O,_,_,_,O,R5,O,_,_,_,_,_,_,_,_,_,O,R5,g,_,_,O,O,by omega,_,_,O,O,by omega,_,O,_,_,_,_,O,aj,T.dP,T.fk,(by show 2<1000;decide),k _ ?_ λb o e hb=>(az hb).trans ((az hb).trans ((az hb).trans (s2 _ _ e)))⟩
  have h3:(upd H2 z (HO.ins (ay 48) dz [("marker",V.ref m)])) z=some (HO.ins (ay 48) dz [("marker",V.ref m)]):=aj
  have h4:(upd (upd H2 z (HO.ins (ay 48) dz [("marker",V.ref m)])) z (HO.ins (ay 48) dz [("marker",V.ref m),("tokens",V.ref l)])) z=some (HO.ins (ay 48) dz [("marker",V.ref m),("tokens",V.ref l)]):=aj
  refine⟨dz,m,l,ys,?_,Cs.off h4 ?_ ?_ ?_ (Cs.off h3 ?_ ?_ ?_ (Cs.off hz2 ?_ ?_ ?_ hM)),(az nl).trans ((az nl).trans ((az nl).trans (s2 _ _ hl))),g7 h4 (g7 h3 (g7 hz2 (eN s2 tp)))⟩
  ·rw[T.iN];exact aj
  ·intro y l q;injection q with q1 q2;injection q1 with q3 q4;exact absurd q3 (by decide +kernel)
  ·intro d q;injection q with q1 q2;injection q1 with q3 q4;exact absurd q3 (by decide +kernel)
  ·intro q;injection q with q1 q2;injection q1 with q3 q4;exact absurd q3 (by decide +kernel)
  ·intro y l q;injection q with q1 q2;injection q1 with q3 q4;exact absurd q3 (by decide +kernel)
  ·intro d q;injection q with q1 q2;injection q1 with q3 q4;exact absurd q3 (by decide +kernel)
  ·intro q;injection q with q1 q2;injection q1 with q3 q4;exact absurd q3 (by decide +kernel)
  ·intro y l q;cases q
  ·intro d q;cases q
  ·intro q;cases q
def nD:Sp:=λvs H Q _=>∃z:Str,vs=[.str z]/\cy z/\z.length<=2000/\∀H',aF H H'->Q (.bl true) H'
theorem nF:bD P w K mg base fT 2 (ay 11) (aO 11) ["text"] nD:=by
 have iw:=@jZ P w K mg base ay aO dJ T
 refine T.iL.ok nk (λvs H Q E h=>?_) (λcdv A outer s H vs Q E hr h=>?_)
 ·obtain⟨z,rfl,_⟩:=h;rfl
 ·have hu:=bh hr
  have iz:=hr.aQ
  obtain⟨z,rfl,g,hz,k⟩:=h
  refine⟨_,(ak (aA (kq (lM K rfl rfl) T.xJ (af (eZ rfl (show bq ["text"] (aq c9) ["sign"] 1 [] _ from Dj) (mZ (pv 0)) (λ_ _ _ _=>(m6 0 Ga)) (λ_ _ _ _=>dM) (λ_ _ _ _=>(LG (Gb bB (pv 0) (jt rfl T.jK.choose_spec)) (z3 (jS iw hr T.kR T.ia.kp T.kQ (af (pv 0) ai)))))) ai)))),?_⟩
  refine⟨_,O,z,O,λD hD=>?_⟩
  have hsz:z.cps.toList.length=z.length:=by rw[YX];rfl
  refine nO (λi ys τ H2=>(∃v,τ=[v])/\aF H H2/\H2 D=some (.lst ys)/\ys=(List.replicate i true).map V.bl) ⟨⟨_,rfl⟩,au hD,aj,rfl⟩ (λi ys τ H2 _ p=>p.2.2.1) ?_ ?_
  ·rintro i c ys τ H2 hi ⟨⟨v,rfl⟩,s2,hl,rfl⟩
   have hc:c∈z.cps.toList:=YT hi
   have hil:i<z.cps.toList.length:=(YG.mp hi).1
   refine pU ?_
   have fin:∀B:Prop,B=B->H2 D=some (.lst ((List.replicate i true).map V.bl))/\((List.replicate i true).map V.bl).length<sizeLine/\(∃v,[some (V.str (sg c))]=[v])/\aF H (upd H2 D (.lst ((List.replicate i true).map V.bl++[.bl true])))/\(upd H2 D (.lst ((List.replicate i true).map V.bl++[.bl true]))) D=some (.lst ((List.replicate i true).map V.bl++[.bl true]))/\(List.replicate i true).map V.bl++[.bl true]=(List.replicate (i+1) true).map V.bl:=λ_ _=>by
    refine⟨hl,?_,⟨_,O⟩,aK hD s2,aj,?_⟩
    ·rw[YC,Zo]
     exact YZ (show i<2001 by omega) (by decide)
    ·rw[List.replicate_succ',YW];rfl
   refine⟨_,O,O,_,O,bY (λ_=>?_) (λh=>?_)⟩
   ·exact fin True rfl
   ·have hp:Pn c:=(g c hc).resolve_left (Uc T.iN h)
    exact⟨_,O,c,O,hp,fin True rfl⟩
  ·rintro ys τ H2 ⟨⟨v,rfl⟩,s2,hl,rfl⟩
   refine⟨D,List.replicate _ true,O,aX.of hl,?_⟩
   have e:(List.replicate z.cps.toList.length true).all id=true:=by
    rw[Zs]
    intro b hb
    exact(List.mem_replicate.mp hb).2
   rw[e]
   exact k H2 s2
def AU:Sp:=λvs H Q _=>∃z:Str,vs=[.str z]/\cy z/\z.length<=400/\∀H',aF H H'->Q (.bl true) H'
theorem AV:bD P w K mg base fT 3 (ay 12) (aO 12) ["thing"] AU:=by
 have oV:=@nF P w K mg base ay aO dJ T
 refine T.wz.ok AG (λvs H Q E h=>?_) (λcdv A outer s H vs Q E hr h=>?_)
 ·obtain⟨z,rfl,_⟩:=h;rfl
 ·have hu:=bh hr
  have iz:=hr.aQ
  obtain⟨z,rfl,g,hz,k⟩:=h
  refine⟨_,(ah (aN (PW.pt (gu (dQ (cG (kq (gB K rfl) T.cC (af (pv 0) (af (JD "str" T.AQ) ai))))) (fZ (eH sQ (kq bI T.cD (af (pv 0) ai)) (sH rfl T.fm.choose_spec))))) (ak (aA jh)) aC)
   (ak (aA (jS oV hr T.oK T.iL.kp T.oJ (af (pv 0) ai))))),?_⟩
  refine⟨_,O,_,_,_,true,O,.str _,.inl ⟨_,O,O⟩,true,O,cU ?_⟩
  refine⟨_,O,z,O,YU hz (by decide),_,_,O,O,_,O,Ey (by omega) ?_⟩
  exact⟨_,O,z,O,g,by omega,k⟩
def CJ(K:W.Frag):Sp:=λvs H Q _=>∃(a:Addr)(r:List Str),vs=[.ref a]/\H a=some (.lst (r.map V.str))/\(∀c∈r,cy c)/\(lens r).sum<=400/\r.length<=1000/\∀H',aF H H'->Q (.bl (xq r)) H'
theorem CK:bD P w K mg base fT 4 (ay 13) (aO 13) ["thing"] (CJ K):=by
 have CL:=@AV P w K mg base ay aO dJ T
 refine T.zE.ok Cz (λvs H Q E h=>?_) (λcdv A outer s H vs Q E hr h=>?_)
 ·obtain⟨a,r,rfl,_⟩:=h;rfl
 ·have hu:=bh hr
  have iz:=hr.aQ
  obtain⟨a,r,rfl,ha,g,hs,hrl,k⟩:=h
  have hml:(r.map V.str).length=r.length:=YC ..
  refine⟨_,(ah (aN (PW.pt (gu (dQ (cG (kq (kE K rfl) T.cC (af (pv 0) (af (JD "list" T.xM) ai))))) (gu (eH yH (kq (bu K rfl) T.cD (af (pv 0) ai)) ao) (fZ (eH sQ (kq (bu K rfl) T.cD (af (pv 0) ai)) (sH rfl T.u6.choose_spec)))))) (ak (aA jh)) aC)
   (ak (aA (kq (lM K rfl rfl) T.xJ (af (eZ rfl (show bq ["thing"] (aq nT) ["cell"] 1 [] _ from Dj) (cg K rfl (pv 0)) (λ_ _ _ _=>(m6 0 Ga)) (λ_ _ _ _=>dM) (λ_ _ _ _=>(jS CL hr T.CB T.wz.kp T.CA (af (pv 0) ai)))) ai))))),?_⟩
  refine⟨_,O,a,_,_,true,O,.inr ⟨aX.of ha,O⟩,true,O,cU ?_⟩
  refine⟨_,O,a,_,O,.inl (aX.of ha),_,_,O,O,_,O,Mr (λh1=>?_) (λh1=>?_)⟩
  ·rw[EY (by omega)]at k
   exact kC (k H (aF.refl _))
  refine⟨_,O,a,_,O,.inl (aX.of ha),_,_,O,O,_,O,Mr (λh2=>?_) (λh2=>?_)⟩
  ·rw[EY (by omega)]at k
   exact k H (aF.refl _)
  rw[EX (by omega) (by omega)]at k
  refine⟨_,O,a,O,⟨_,aX.of ha⟩,λD hD=>?_⟩
  refine fG (K:=K) (a:=a) (xs:=r.map V.str) (λi ys τ H2=>(∃v,τ=[v])/\aF H H2/\H2 D=some (.lst ys)/\ys=(List.replicate i true).map V.bl) ⟨⟨_,rfl⟩,au hD,aj,rfl⟩ (λi ys τ H2 _ p=>⟨aX.of (p.2.1 _ _ ha),p.2.2.1⟩) ?_ ?_
  ·rintro i e ys τ H2 hi ⟨⟨v,rfl⟩,s2,hl,rfl⟩
   have hil:i<(r.map V.str).length:=(YG.mp hi).1
   obtain⟨z,hz,rfl⟩:∃z∈r,e=V.str z:=by
    obtain⟨z,hz,e2⟩:=Zx.mp (YT hi)
    exact⟨z,hz,e2.symm⟩
   refine pU ?_
   refine⟨_,O,z,O,g z hz,YU (kK hz) hs,λH3 s3=>⟨s3 _ _ hl,?_,⟨_,O⟩,aK hD (s2.trans s3),aj,?_⟩⟩
   ·rw[YC,Zo]
    exact YZ (show i<1001 by (rw[YC]at hil;omega)) (by decide)
   ·rw[List.replicate_succ',YW];rfl
  ·rintro ys τ H2 ⟨⟨v,rfl⟩,s2,hl,rfl⟩
   refine⟨D,List.replicate _ true,O,aX.of hl,?_⟩
   have e:(List.replicate (r.map V.str).length true).all id=true:=by
    rw[Zs]
    intro b hb
    exact(List.mem_replicate.mp hb).2
   rw[e]
   exact k H2 s2
def rH(K:W.Frag):Sp:=λvs H Q _=>∃(a:Addr)(r:List Str),vs=[.ref a]/\H a=some (.lst (r.map V.str))/\r.length<=20/\(lens r).sum<=400/\∀H',aF H H'->Q (.int ((lens r).sum:Nat)) H'
theorem rJ:bD P w K mg base fT 1 (ay 14) (aO 14) ["row"] (rH K):=by
 refine T.kT.ok qX (λvs H Q E h=>?_) (λcdv A outer s H vs Q E hr h=>?_)
 ·obtain⟨a,r,rfl,_⟩:=h;rfl
 ·have hu:=bh hr
  have iz:=hr.aQ
  obtain⟨a,r,rfl,ha,hr,hs,k⟩:=h
  refine⟨_,(ak (aA (kq (pM K rfl rfl) T.AR (af (eZ rfl (show bq ["row"] (aq fh) ["cell"] 1 [] _ from Dj) (cg K rfl (pv 0)) (λ_ _ _ _=>(m6 0 Ga)) (λ_ _ _ _=>dM) (λ_ _ _ _=>(kq bI T.cD (af (pv 0) ai)))) ai)))),?_⟩
  refine⟨_,O,a,O,⟨_,aX.of ha⟩,λD hD=>?_⟩
  refine fG (K:=K) (a:=a) (xs:=r.map V.str) (λi ys τ H2=>(∃v,τ=[v])/\aF H H2/\H2 D=some (.lst ys)/\ys=((lens r).take i).map λn:Nat=>V.int n) ⟨⟨_,rfl⟩,au hD,aj,rfl⟩ (λi ys τ H2 _ p=>⟨aX.of (p.2.1 _ _ ha),p.2.2.1⟩) ?_ ?_
  ·rintro i e ys τ H2 hi ⟨⟨v,rfl⟩,s2,hl,rfl⟩
   rw[Zk]at hi
   cases hz:r[i]? with
   |none=>rw[hz]at hi;cases hi
   |some z =>
    rw[hz]at hi
    cases hi
    have Um:=YT hz
    have Le:=YU (kK Um) hs
    refine pU ?_
    refine⟨_,O,z,O,YU Le (by decide),hl,?_,⟨_,O⟩,aK hD s2,aj,?_⟩
    ·rw[YC,Zn]
     unfold lens;rw[YC]
     exact YO (show _<=20 by omega) (by decide)
    ·rw[aM (l:=lens r) (c:=z.length) (by unfold lens;rw[Zk,hz];rfl),YW];rfl
  ·rintro ys τ H2 ⟨⟨v,rfl⟩,s2,hl,rfl⟩
   refine⟨D,lens r,O,?_,by omega,k H2 s2⟩
   have e:(lens r).take (r.map V.str).length=lens r:=YR (by unfold lens;rw[YC,YC];exact YB _)
   rw[e]at hl
   exact aX.of hl
def zM(K:W.Frag):Sp:=λvs H Q _=>∃(a:Addr)(xs:List V)(t:List (List Str)),vs=[.ref a]/\H a=some (.lst xs)/\Paired (aU H) xs t/\JL t/\∀H',aF H H'->Q (.bl (t6 t)) H'
theorem zN:bD P w K mg base fT 5 (ay 15) (aO 15) ["thing"] (zM K):=by
 have Fz:=@CK P w K mg base ay aO dJ T
 have uC:=@rJ P w K mg base ay aO dJ T
 refine T.uu.ok zB (λvs H Q E h=>?_) (λcdv A outer s H vs Q E hr h=>?_)
 ·obtain⟨a,xs,t,rfl,_⟩:=h;rfl
 ·have hu:=bh hr
  have iz:=hr.aQ
  obtain⟨a,xs,t,rfl,ha,tr,g,k⟩:=h
  have hn:=g.n
  have hlx:=tr.length
  refine⟨_,(ah (aN (PW.pt (gu (dQ (cG (kq (kE K rfl) T.cC (af (pv 0) (af (JD "list" T.xM) ai))))) (fZ (eH sQ (kq (bu K rfl) T.cD (af (pv 0) ai)) (sH rfl T.xN.choose_spec))))) (ak (aA jh)) aC)
   (ah (aN (dQ (cG (kq (lM K rfl rfl) T.xJ (af (eZ rfl (show bq ["thing"] (aq gW) ["row"] 1 [] _ from Dj) (cg K rfl (pv 0)) (λ_ _ _ _=>(m6 0 Ga)) (λ_ _ _ _=>dM) (λ_ _ _ _=>(jS Fz hr T.Fi T.zE.kp T.Fg (af (pv 0) ai)))) ai)))) (ak (aA jh)) aC)
   (ak (aA (Gb Ij (kq (pM K rfl rfl) T.AR (af (eZ rfl (show bq ["thing"] (aq gW) ["row"] 1 [] _ from Dj) (cg K rfl (pv 0)) (λ_ _ _ _=>(m6 0 Ga)) (λ_ _ _ _=>dM) (λ_ _ _ _=>(jS uC hr T.ur T.kT.kp T.uq (af (pv 0) ai)))) ai)) (sH rfl T.fm.choose_spec)))))),?_⟩
  refine⟨_,O,a,_,_,true,O,.inr ⟨aX.of ha,O⟩,true,O,cU ?_⟩
  refine⟨_,O,a,_,O,.inl (aX.of ha),_,_,O,O,_,O,Mr (λh1=>?_) (λh1=>?_)⟩
  ·have e:t6 t=false:=by unfold t6;rw[YK (by omega)];rfl
   rw[e]at k
   exact k H (aF.refl _)
  refine⟨_,O,a,O,⟨_,aX.of ha⟩,λD hD=>?_⟩
  refine fG (K:=K) (a:=a) (xs:=xs) (λi ys τ H2=>(∃v,τ=[v])/\aF H H2/\H2 D=some (.lst ys)/\ys=((t.take i).map xq).map V.bl) ⟨⟨_,rfl⟩,au hD,aj,rfl⟩ (λi ys τ H2 _ p=>⟨aX.of (p.2.1 _ _ ha),p.2.2.1⟩) ?_ ?_
  ·rintro i e ys τ H2 hi ⟨⟨v,rfl⟩,s2,hl,rfl⟩
   have hil:i<xs.length:=(YG.mp hi).1
   obtain⟨r,hr,b,rfl,hb⟩:=aP tr i e hi
   have AW:=YT hr
   refine pU ?_
   refine⟨_,O,b,r,O,s2 _ _ hb,g.ok r AW,YU (lQ AW) g.sum,g.rl r AW,λH3 s3=>⟨s3 _ _ hl,?_,⟨_,O⟩,aK hD (s2.trans s3),aj,?_⟩⟩
   ·rw[YC,YC,Zn]
    exact YO (show _<=1000 by omega) (by decide)
   ·rw[aM hr,YW,YW];rfl
  ·rintro ys τ H2 ⟨⟨v,rfl⟩,s2,hl,rfl⟩
   rw[hlx,YR (YB _)]at hl
   refine⟨D,t.map xq,O,aX.of hl,?_⟩
   have ea:(t.map xq).all id=t.all xq:=by rw[List.all_map];rfl
   rw[ea]
   cases hA:t.all xq with
   |false =>
    have e:t6 t=false:=by unfold t6;rw[hA,Bool.and_false]
    rw[e]at k
    exact⟨_,O,kC (k H2 s2)⟩
   |true =>
    have hB:t6 t=true:=by unfold t6;rw[hA,YJ (by omega)];rfl
    have Pg:=Hg g hB
    rw[hB]at k
    refine⟨true,O,cU ?_⟩
    clear hl
    have ha2:=s2 _ _ ha
    refine⟨_,O,a,O,⟨_,aX.of ha2⟩,λE hE=>?_⟩
    refine fG (K:=K) (a:=a) (xs:=xs) (λi ys τ H3=>(∃v,τ=[v])/\aF H2 H3/\H3 E=some (.lst ys)/\ys=((t.map λr=>(lens r).sum).take i).map λn:Nat=>V.int n) ⟨⟨_,rfl⟩,au hE,aj,rfl⟩ (λi ys τ H3 _ p=>⟨aX.of (p.2.1 _ _ ha2),p.2.2.1⟩) ?_ ?_
    ·rintro i e ys τ H3 hi ⟨⟨v,rfl⟩,s3,hl,rfl⟩
     obtain⟨r,hr,b,rfl,hb⟩:=aP tr i e hi
     have AW:=YT hr
     have hil:i<xs.length:=(YG.mp hi).1
     refine pU ?_
     refine⟨_,O,b,r,O,s3 _ _ (s2 _ _ hb),(Pg.rows r AW).hi,YU (lQ AW) Pg.sum,λH4 s4=>⟨s4 _ _ hl,?_,⟨_,O⟩,aK hE (s3.trans s4),aj,?_⟩⟩
     ·rw[YC,Zn,YC]
      exact YO (show _<=60 by omega) (by decide)
     ·rw[aM (l:=t.map λr=>(lens r).sum) (c:=(lens r).sum) (by rw[Zk,hr];rfl),YW];rfl
    ·rintro ys τ H3 ⟨⟨v,rfl⟩,s3,hl,rfl⟩
     have e:(t.map λr=>(lens r).sum).take xs.length=t.map λr=>(lens r).sum:=YR (by rw[YC,hlx];exact YB _)
     rw[e]at hl
     have hsum:=Pg.sum
     refine⟨E,t.map λr=>(lens r).sum,O,aX.of hl,by unfold total at hsum;omega,_,_,O,O,?_⟩
     have e2:decide ((((t.map λr=>(lens r).sum).sum:Nat):Int)<=400)=true:=YJ (by unfold total at hsum;omega)
     have q:=k H3 (s2.trans s3)
     rw[←e2]at q
     exact q
def AX(K:W.Frag)(C:Addr):Sp:=λvs H Q _=>∃(x dx s:Addr)(w u:Str)(p q f:Str)(b1 b2 b3 b4:Bool),vs=[.ref x,.ref s]/\H x=some (.ins C dx (yu p q f b1 b2 b3 b4))/\bU K H s [.str w,.str u]/\Q (.bl (dY f w u)) H
theorem AY:bD P w K mg base fT 1 (ay 16) (aO 16) ["dialect","state"] (AX K (ay 45)):=by
 refine T.wA.ok AH (λvs H Q E h=>?_) (λcdv A outer s H vs Q E hr h=>?_)
 ·obtain⟨x,dx,s,w,u,p,q,f,b1,b2,b3,b4,rfl,_⟩:=h;rfl
 ·have hu:=bh hr
  have iz:=hr.aQ
  obtain⟨x,dx,s,w,u,p,q,f,b1,b2,b3,b4,rfl,hx,hs,k⟩:=h
  unfold dY at k
  refine⟨_,(ah (aN (PW.pt (gu (eH bB (nG K (pv 1) ao) av) (fZ (eH bB (nG K (pv 1) ao) av)))) (ak (aA jh)) aC)
   (ak (aA (Bl nN (nG K (pv 1) ao) (aJ K rfl (pv 0) rfl) rfl)))),?_⟩
  refine⟨_,O,s,_,_,_,O,O,hs,O,O,_,O,bY (λ(h1:aZ u ("":Str)=true)=>kC ?_) (λ(h1:¬aZ u ("":Str)=true)=>?_)⟩
  ·rw[YA h1]at k
   exact k
  rw[Yz h1]at k
  refine⟨_,O,s,_,_,_,O,O,hs,O,O,_,O,bY (λ(h2:aZ w ("doubt":Str)=true)=>?_) (λ(h2:¬aZ w ("doubt":Str)=true)=>?_)⟩
  ·rw[YA h2]at k
   exact k
  rw[Yz h2]at k
  exact⟨_,O,s,_,_,_,O,O,hs,O,_,O,x,(ay 45),dx,_,_,O,hx,T.aD,T.bz,O,_,_,O,O,k⟩
def ql(K:W.Frag):Sp:=λvs H Q _=>∃(a:Addr)(r:List Str),vs=[.ref a]/\H a=some (.lst (r.map V.str))/\r.length<=20/\(lens r).sum<=400/\∀(l:Addr)(ys:List V) H',H l=none->H' l=some (.lst ys)->Paired (bW K H') ys (gg r)->aF H H'->Q (.ref l) H'
theorem qm:bD P w K mg base fT 1 (ay 17) (aO 17) ["row"] (ql K):=by
 refine T.jW.ok dO (λvs H Q E h=>?_) (λcdv A outer s H vs Q E hr h=>?_)
 ·obtain⟨a,r,rfl,_⟩:=h;rfl
 ·have hu:=bh hr
  have iz:=hr.aQ
  obtain⟨a,r,rfl,ha,hr,hs,k⟩:=h
  refine⟨_,(ah (d7 1 dO.nd (dS ai))
   (ah (dR Zh rfl (Ea K rfl rfl T.xK (af (pv 0) ai)) (GR K rfl 2 rfl (yE (m6 2 dO.nd) (yE (m6 3 dO.nd) Gr)))
   (ah (aN (eH sQ (pv 2) ao) (ak (cN (dw K rfl Y9 Zb Zc bL (pv 1) (af (ju rfl T.Ht) ai)))) aC)
   (ak (cN (dw K rfl Y9 PySem.F.slot_list_extend PySem.F.type_list_extend vN (pv 1) (af (eZ rfl (show bq ["row","tokens","place","cell"] (aq d8) ["sign"] 1 [] _ from Dj) (mZ (pv 3)) (λ_ _ _ _=>(m6 0 Ga)) (λ_ _ _ _=>dM) (λ_ _ _ _=>(aH (af av (af (pv 0) ai))))) ai))))))
   (ah (cN (dw K rfl Y9 Zb Zc bL (pv 1) (af (ju rfl T.JT) ai)))
   (ak (aA (pv 1)))))),?_⟩
  refine⟨by decide,λl hl=>?_⟩
  have s0:=au (o:=HO.lst []) hl
  have FA:∀n,n<=r.length->(gE r n).length<=420:=λn hn=>by
   have:=nY r n hn
   have h2:(lens (r.take n)).sum<=(lens r).sum:=by
    unfold lens;rw[List.map_take];exact iC _ _
   omega
  refine⟨_,O,a,O,⟨_,aX.of (s0 _ _ ha)⟩,?_⟩
  refine Eb (K:=K) (a:=a) (xs:=r.map V.str) (λi σ H2=>(∃v1 v2,σ=[some (.ref a),some (.ref l),v1,v2])/\aF H H2/\∃ys,H2 l=some (.lst ys)/\Paired (bW K H2) ys (gE r i)) ⟨⟨_,_,rfl⟩,s0,[],aj,.nil⟩ (λi σ H2 _ q=>aX.of (q.2.1 _ _ ha)) ?_ ?_
  ·rintro i e t σ H2 hi ht ⟨⟨v1,v2,rfl⟩,s2,ys,hy,hp⟩
   have hil:i<r.length:=by
    have:=(YG.mp hi).1
    rwa [YC]at this
   rw[Zk]at hi
   cases hz:r[i]? with
   |none=>rw[hz]at hi;cases hi
   |some z =>
    rw[hz]at hi
    cases hi
    have Le:z.length<=400:=YU (kK (YT hz)) hs
    have st:=au (o:=HO.tup [.int (i:Int),.str z]) ht
    have hb:=FA i (by omega)
    have hyl:=hp.length
    refine⟨t,_,O,bU.of aj,O,_,_,O,_,_,O,O,?_⟩
    have hy1:=st _ _ hy
    have hp1:=aB (λa b h=>bW.mono st h) hp
    have NN:=s2.trans st
    generalize upd H2 t (HO.tup [.int (i:Int),.str z])=H3 at st hy1 hp1 NN⊢
    clear hp hy s2 st
    refine lO (t:=Dw _ _ _) (λσ' H'=>σ'=[some (.ref a),some (.ref l),some (.int (i:Int)),some (.str z)]/\aF H H'/\∃ws,H' l=some (.lst ws)/\Paired (bW K H') ws (gE r i++(if i=0 then [] else [di]))) ?_ (λgo=>?_)
    rotate_left
    ·refine⟨_,O,_,_,O,O,_,O,bY (λh=>?_) (λh=>?_)⟩
     ·have h0:(0:Int)<i:=Zg h
      refine⟨_,O,.inl ⟨O,_,aX.of hy1⟩,l,ys,_,O,O,hy1,YO (show ys.length<=420 by omega) (by decide),go _ _ ⟨O,aK hl NN,_,aj,?_⟩⟩
      rw[Yz (by omega)]
      exact aB (λa b h=>bW.but hy1 h) (bP hp1 ⟨(ay 54),rfl,.inr T.Hu⟩)
     ·have h0:i=0:=by
       have:¬(0:Int)<i:=λq=>h (YJ q)
       omega
      refine go _ _ ⟨rfl,NN,ys,hy1,?_⟩
      rw[YA h0,Ze]
      exact hp1
    clear hy1 hp1 NN hyl
    rintro σ' H4 ⟨rfl,s4,ws,hw,zY⟩
    have hwl:=zY.length
    have Ph:ws.length<=421:=by
     rw[hwl,YE]
     split
     ·simp;omega
     ·show _+1<=421;omega
    refine⟨_,O,.inl ⟨O,_,aX.of hw⟩,_,O,z,O,λD hD=>?_⟩
    refine nO (λj zs τ H5=>(∃v,τ=[v])/\aF H4 H5/\H5 D=some (.lst zs)/\Paired (bW K H5) zs ((z.cps.toList.take j).map λc=>(Str.ofString "put",sg c))) ⟨⟨_,rfl⟩,au hD,aj,.nil⟩ (λj zs τ H5 _ p=>p.2.2.1) ?_ ?_
    ·rintro j c zs τ H5 hj ⟨⟨v,rfl⟩,s5,h5,CN⟩
     have hjl:j<z.cps.toList.length:=(YG.mp hj).1
     rw[YX]at hjl
     have hjl:j<z.length:=hjl
     have Fy:=CN.length
     rw[YC,Zn]at Fy
     refine pU ?_
     refine⟨_,O,(by show 2<=sizeLine;decide),λu Gg=>?_⟩
     have s6:=au (o:=HO.tup [.str ("put":Str),.str (sg c)]) Gg
     refine⟨s6 _ _ h5,YO (show zs.length<=400 by omega) (by decide),⟨_,O⟩,aK hD (s5.trans s6),aj,?_⟩
     rw[aM hj,YW]
     exact aB (λa b h=>bW.but (s6 _ _ h5) h) (bP (aB (λa b h=>bW.mono s6 h) CN) ⟨u,rfl,bU.of aj⟩)
    ·rintro zs τ H5 ⟨⟨v,rfl⟩,s5,h5,CN⟩
     rw[YR (YB _)]at CN
     have Fy:=CN.length
     rw[YC,YX]at Fy
     have Fy:zs.length=z.length:=Fy
     have R6:=s5 _ _ hw
     refine⟨l,D,ws,zs,O,O,R6,h5,YU (show ws.length+zs.length<=1000 by omega) (by decide),⟨_,_,O⟩,aK hl (s4.trans s5),_,aj,?_⟩
     rw[eL hz,←Y8]
     exact aB (λa b h=>bW.but R6 h) (dG (aB (λa b h=>bW.mono s5 h) zY) CN)
  ·rintro σ H2 ⟨⟨v1,v2,rfl⟩,s2,ys,hy,hp⟩
   rw[YC]at hp
   have hb:=FA r.length (YB _)
   have hyl:=hp.length
   refine⟨_,O,.inl ⟨O,_,aX.of hy⟩,l,ys,_,O,O,hy,YO (show ys.length<=420 by omega) (by decide),?_⟩
   refine⟨_,O,k l _ _ hl aj ?_ (aK hl s2)⟩
   exact aB (λa b h=>bW.but hy h) (bP hp ⟨(ay 55),rfl,.inr T.JU⟩)
def uD(K:W.Frag):Sp:=λvs H Q _=>∃(a:Addr)(xs:List V)(t:List (List Str)),vs=[.ref a]/\H a=some (.lst xs)/\Paired (aU H) xs t/\TabOk t/\∀H',aF H H'->Q .non H'
theorem uF:bD P w K mg base fT 6 (ay 18) (aO 18) ["thing"] (uD K):=by
 have AZ:=@zN P w K mg base ay aO dJ T
 refine T.mF.ok uc (λvs H Q E h=>?_) (λcdv A outer s H vs Q E hr h=>?_)
 ·obtain⟨a,xs,t,rfl,_⟩:=h;rfl
 ·have hu:=bh hr
  have iz:=hr.aQ
  obtain⟨a,xs,t,rfl,ha,tr,g,k⟩:=h
  refine⟨_,(ak (aN (dQ (cG (jS AZ hr T.AL T.uu.kp T.AK (af (pv 0) ai)))) (ak fS) aC)),?_⟩
  exact⟨_,O,a,xs,t,O,ha,tr,g.s,λH1 s1=>⟨_,O,Iw (Hh g) (k _ s1)⟩⟩
def xP(K:W.Frag):Sp:=λvs H Q _=>∃(a:Addr)(xs:List V)(t:List (List Str)),vs=[.ref a]/\H a=some (.lst xs)/\Paired (aU H) xs t/\TabOk t/\∀(l:Addr)(ys:List V) H',H l=none->H' l=some (.lst ys)->Paired (bW K H') ys (aR t)->aF H H'->Q (.ref l) H'
theorem oW:bD P w K mg base fT 7 (ay 19) (aO 19) ["table"] (xP K):=by
 have vd:=@uF P w K mg base ay aO dJ T
 have rK:=@qm P w K mg base ay aO dJ T
 refine T.iM.ok jF (λvs H Q E h=>?_) (λcdv A outer s H vs Q E hr h=>?_)
 ·obtain⟨a,xs,t,rfl,_⟩:=h;rfl
 ·have hu:=bh hr
  have iz:=hr.aQ
  obtain⟨a,xs,t,rfl,ha,tr,g,k⟩:=h
  have hlx:=tr.length
  refine⟨_,(ah (cN (jS vd hr T.uZ T.mF.kp T.uY (af (pv 0) ai)))
   (ah (d7 1 jF.nd (dS ai))
   (ah (dR Zh rfl (cg K rfl (pv 0)) (m6 2 jF.nd)
   (ak (cN (dw K rfl Y9 PySem.F.slot_list_extend PySem.F.type_list_extend vN (pv 1) (af (jS rK hr T.rq T.jW.kp T.rm (af (pv 2) ai)) ai)))))
   (ak (aA (pv 1)))))),?_⟩
  refine⟨_,O,a,xs,t,O,ha,tr,g,λH1 s1=>?_⟩
  refine⟨by decide,λl hl=>?_⟩
  have s0:=s1.trans (au (o:=HO.lst []) hl)
  have Lg:H l=none:=s1.free hl
  refine⟨_,O,a,O,⟨_,aX.of (s0 _ _ ha)⟩,?_⟩
  refine gI (K:=K) (a:=a) (xs:=xs) (λi σ H2=>(∃v,σ=[some (.ref a),some (.ref l),v])/\aF H H2/\∃ys,H2 l=some (.lst ys)/\Paired (bW K H2) ys (aR (t.take i))) ⟨⟨_,rfl⟩,s0,[],aj,.nil⟩ (λi σ H2 _ q=>aX.of (q.2.1 _ _ ha)) ?_ ?_
  ·rintro i e σ H2 hi ⟨⟨v,rfl⟩,s2,ys,hy,hp⟩
   obtain⟨r,hr,b,rfl,hb⟩:=aP tr i e hi
   have AW:=YT hr
   have b1:=nZ g i
   have b2:=nZ g (i+1)
   rw[aM hr,iG,YE]at b2
   have hyl:=hp.length
   refine⟨_,O,.inl ⟨O,_,aX.of hy⟩,_,O,b,r,O,s2 _ _ hb,(g.rows r AW).hi,YU (lQ AW) g.sum,λm zs H3 hm h3 hp3 s3=>?_⟩
   have Fy:=hp3.length
   have R7:=s3 _ _ hy
   refine⟨l,m,ys,zs,O,O,R7,h3,YU (show ys.length+zs.length<=1600 by omega) (by decide),⟨_,O⟩,aK Lg (s2.trans s3),_,aj,?_⟩
   rw[aM hr,iG]
   exact aB (λa b h=>bW.but R7 h) (dG (aB (λa b h=>bW.mono s3 h) hp) hp3)
  ·rintro σ H2 ⟨⟨v,rfl⟩,s2,ys,hy,hp⟩
   rw[hlx,YR (YB _)]at hp
   exact⟨_,O,k l ys H2 Lg hy hp s2⟩
def rL(K:W.Frag):Sp:=λvs H Q _=>∃(l:Addr)(ys:List V)(ts:List (Str×Str))(n:Nat)(kd s:Str),vs=[.ref l,.int n,.str kd,.str s]/\H l=some (.lst ys)/\Paired (bW K H) ys ts/\∀H',aF H H'->Q (Pa (m9 ts n kd s)) H'
theorem rM:bD P w K mg base fT 1 (ay 20) (aO 20) ["tokens","count","kind","sign"] (rL K):=by
 refine T.kX.ok jV (λvs H Q E h=>?_) (λcdv A outer s H vs Q E hr h=>?_)
 ·obtain⟨l,ys,ts,n,kd,s,rfl,_⟩:=h;rfl
 ·have hu:=bh hr
  have iz:=hr.aQ
  obtain⟨l,ys,ts,n,kd,s,rfl,hl,tp,k⟩:=h
  have lq:=hr.units
  refine⟨_,(ah (aN (eH bB (pv 2) av) (ak (aA (pv 1))) aC)
   (ah (d7 4 jV.nd (aH (af (pv 2) (af (nJ (eH bB (pv 2) av) (pv 3) av) ai))))
   (ah (aN (PW.pt (gH (eH yH (pv 1) (kq (bu K rfl) T.cD (af (pv 0) ai))) (eY (eH (Eo (YL _ _ K) rfl (hn0 lq)) (qK K (pv 0) (pv 1)) (pv 4))))) (ak (aA (aE bX (pv 1) ao))) aC)
   (ak (aA cM))))),?_⟩
  unfold m9 at k
  have tl:=tp.length
  refine⟨_,O,O,_,O,bY (λ(h1:aZ kd ("skip":Str)=true)=>?_) (λ(h1:¬aZ kd ("skip":Str)=true)=>?_)⟩
  ·rw[YA h1]at k
   exact⟨_,O,k H (aF.refl _)⟩
  rw[Yz h1]at k
  refine⟨_,O,_,O,O,_,O,bY (λ(h2:aZ kd ("put":Str)=true)=>?_) (λ(h2:¬aZ kd ("put":Str)=true)=>?_)⟩
  ·rw[YA h2]at k
   refine⟨_,O,(by show 2<=sizeLine;decide),λt ht=>?_⟩
   (have s1:=au (o:=HO.tup [V.str kd,V.str s]) ht;have g1:=aj (H:=H) (a:=t) (o:=HO.tup [V.str kd,V.str s]);generalize upd H t (HO.tup [V.str kd,V.str s])=H1 at s1 g1⊢)
   have hl1:=s1 _ _ hl
   dsimp only[bA]
   refine⟨_,O,_,O,l,_,O,.inl (aX.of hl1),_,_,O,O,_,O,bY (λh3=>?_) (λh3=>?_)⟩
   ·have h3:=Zg h3
    have hn:n<ys.length:=by omega
    obtain⟨y,hy⟩:∃y,ys[n]?=some y:=⟨_,YV hn⟩
    obtain⟨⟨k1,s2⟩,ht1,a,rfl,ha⟩:=aP tp n y hy
    have hat:zV ys (n:Int)=some (.ref a):=iB hy
    refine⟨_,O,_,O,l,_,_,.ref a,O,O,aX.of hl1,hat,_,O,a,t,_,_,O,O,nR (aL s1 ha),nR (bU.of g1),_,O,bY (λh4=>?_) (λh4=>?_)⟩
    ·have h4:=jj.mp (Zg h4)
     rw[ht1,YA (by rw[h4])]at k
     have kk:=k H1 s1
     exact⟨_,O,_,_,O,O,kk⟩
    ·have h4:¬(k1,s2)=(kd,s):=λq=>h4 (YJ (jj.mpr q))
     rw[ht1,Yz (λq=>h4 (Y0 q))]at k
     exact k H1 s1
   ·have h3:=of_decide_eq_false (Bool.eq_false_iff.mpr h3)
    have hn:ts[n]?=none:=Zz (by omega)
    rw[hn,Yz (λq=>nomatch q)]at k
    exact k H1 s1
  ·rw[Yz h2]at k
   refine⟨(by show 2<=sizeLine;decide),λt ht=>?_⟩
   (have s1:=au (o:=HO.tup [V.str kd,V.str ("":Str)]) ht;have g1:=aj (H:=H) (a:=t) (o:=HO.tup [V.str kd,V.str ("":Str)]);generalize upd H t (HO.tup [V.str kd,V.str ("":Str)])=H1 at s1 g1⊢)
   have hl1:=s1 _ _ hl
   dsimp only[bA]
   refine⟨_,O,_,O,l,_,O,.inl (aX.of hl1),_,_,O,O,_,O,bY (λh3=>?_) (λh3=>?_)⟩
   ·have h3:=Zg h3
    have hn:n<ys.length:=by omega
    obtain⟨y,hy⟩:∃y,ys[n]?=some y:=⟨_,YV hn⟩
    obtain⟨⟨k1,s2⟩,ht1,a,rfl,ha⟩:=aP tp n y hy
    have hat:zV ys (n:Int)=some (.ref a):=iB hy
    refine⟨_,O,_,O,l,_,_,.ref a,O,O,aX.of hl1,hat,_,O,a,t,_,_,O,O,nR (aL s1 ha),nR (bU.of g1),_,O,bY (λh4=>?_) (λh4=>?_)⟩
    ·have h4:=jj.mp (Zg h4)
     rw[ht1,YA (by rw[h4])]at k
     have kk:=k H1 s1
     exact⟨_,O,_,_,O,O,kk⟩
    ·have h4:¬(k1,s2)=(kd,("":Str)):=λq=>h4 (YJ (jj.mpr q))
     rw[ht1,Yz (λq=>h4 (Y0 q))]at k
     exact k H1 s1
   ·have h3:=of_decide_eq_false (Bool.eq_false_iff.mpr h3)
    have hn:ts[n]?=none:=Zz (by omega)
    rw[hn,Yz (λq=>nomatch q)]at k
    exact k H1 s1
def lu(K:W.Frag)(C:Addr):Sp:=λvs H Q _=>∃(x dx:Addr)(p q f:Str)(b1 b2 b3 b4:Bool)(s:Addr)(w u:Str)(c:Nat),vs=[.ref x,.ref s,.str (sg c)]/\H x=some (.ins C dx (yu p q f b1 b2 b3 b4))/\bU K H s [.str w,.str u]/\∀v H',aF H H'->uV K H' v (dW p q f b3 w u c)->Q v H'
theorem ly:bD P w K mg base fT 1 (ay 21) (aO 21) ["dialect","state","sign"] (lu K (ay 45)):=by
 refine T.gw.ok kP (λvs H Q E h=>?_) (λcdv A outer s H vs Q E hr h=>?_)
 ·obtain⟨x,dx,p,q,f,b1,b2,b3,b4,s,w,u,c,rfl,_⟩:=h;rfl
 ·have hu:=bh hr
  have iz:=hr.aQ
  obtain⟨x,dx,p,q,f,b1,b2,b3,b4,s,w,u,c,rfl,hx,hs,k⟩:=h
  refine'⟨_,?aa,?bb⟩
  case aa =>
   refine' ah ?s0 ?r0
   case s0 =>
    refine' aN ?c1 ?b1 ?e1
    case c1=>exact(c7 cH (pv 2) (aJ K rfl (pv 0) rfl) rfl)
    case b1 =>
     refine' ak ?s2
     case s2 =>
      refine' aA ?v3
      case v3 =>
       refine' aH ?a4
       case a4 =>
        refine' af ?x5 ?y5 ?z5
        case z5=>exact rfl
        case x5 =>
         exact av
        case y5 =>
         refine' af ?x6 ?y6 ?z6
         case z6=>exact rfl
         case x6 =>
          refine' aH ?a7
          case a7 =>
           refine' af ?x8 ?y8 ?z8
           case z8=>exact rfl
           case x8 =>
            exact av
           case y8 =>
            refine' af ?x9 ?y9 ?z9
            case z9=>exact rfl
            case x9 =>
             exact av
            case y9 =>
             exact ai
         case y6 =>
          exact ai
    case e1 =>
     exact aC
   case r0 =>
    refine' ah ?Io ?MI
    case Io =>
     refine' aN ?MJ ?JV ?MK
     case MJ=>exact(eH bB (pv 2) (jt rfl T.jK.choose_spec))
     case JV =>
      refine' ak ?s12
      case s12 =>
       refine' aA ?ML
       case ML =>
        refine' aH ?Hw
        case Hw =>
         refine' af ?JW ?JX ?JY
         case JY=>exact rfl
         case JW =>
          exact av
         case JX =>
          refine' af ?JZ ?J4 ?J5
          case J5=>exact rfl
          case JZ =>
           exact(ju rfl T.k9)
          case J4 =>
           exact ai
     case MK =>
      exact aC
    case MI =>
     refine' ah ?Gh ?J6
     case Gh =>
      refine' aN ?J7 ?Hx ?J8
      case J7=>exact(c7 cH (pv 2) (aJ K rfl (pv 0) rfl) rfl)
      case Hx =>
       refine' ak ?Ka
       case Ka =>
        refine' aA ?v20
        case v20 =>
         refine' aH ?Hy
         case Hy =>
          refine' af ?Kc ?Kd ?Ke
          case Ke=>exact rfl
          case Kc =>
           exact av
          case Kd =>
           refine' af ?Kf ?Kg ?Kh
           case Kh=>exact rfl
           case Kf =>
            refine' aH ?Kl
            case Kl =>
             refine' af ?MN ?MO ?MP
             case MP=>exact rfl
             case MN =>
              exact av
             case MO =>
              refine' af ?MQ ?MR ?MS
              case MS=>exact rfl
              case MQ =>
               exact(pv 2)
              case MR =>
               exact ai
           case Kg =>
            exact ai
      case J8 =>
       exact aC
     case J6 =>
      refine' ah ?MT ?Pj
      case MT =>
       refine' aN ?Pk ?MU ?Po
       case Pk=>exact(c7 cH (pv 2) (aJ K rfl (pv 0) rfl) rfl)
       case MU =>
        refine' ak ?Pp
        case Pp =>
         refine' aA ?v30
         case v30 =>
          refine' aH ?MV
          case MV =>
           refine' af ?Pq ?Pr ?Pu
           case Pu=>exact rfl
           case Pq =>
            exact av
           case Pr =>
            refine' af ?Pw ?Px ?Py
            case Py=>exact rfl
            case Pw =>
             refine' aH ?Pz
             case Pz =>
              refine' af ?Uo ?Up ?Uq
              case Uq=>exact rfl
              case Uo =>
               exact av
              case Up =>
               refine' af ?Ur ?Us ?Ut
               case Ut=>exact rfl
               case Ur =>
                exact av
               case Us =>
                exact ai
            case Px =>
             exact ai
       case Po =>
        exact aC
      case Pj =>
       refine' ah ?Uu ?Uv
       case Uu =>
        refine' aN ?Uw ?PB ?Ux
        case Uw=>exact(PW.pt (gH (eH bB (pv 2) av) (eY (cG (aJ K rfl (pv 0) rfl)))))
        case PB =>
         refine' ak ?Uy
         case Uy =>
          refine' aA ?Uz
          case Uz =>
           refine' aH ?PD
           case PD =>
            refine' af ?UA ?UB ?UC
            case UC=>exact rfl
            case UA =>
             exact av
            case UB =>
             refine' af ?UD ?UE ?UG
             case UG=>exact rfl
             case UD =>
              exact(pv 1)
             case UE =>
              exact ai
        case Ux =>
         exact aC
       case Uv =>
        refine' ak ?UH
        case UH =>
         refine' aA ?UI
         case UI =>
          refine' aH ?UJ
          case UJ =>
           refine' af ?UK ?UL ?UM
           case UM=>exact rfl
           case UK =>
            exact av
           case UL =>
            refine' af ?UN ?UO ?UP
            case UP=>exact rfl
            case UN =>
             refine' aH ?UQ
             case UQ =>
              refine' af ?UR ?US ?UT
              case UT=>exact rfl
              case UR =>
               exact av
              case US =>
               refine' af ?UU ?UW ?UX
               case UX=>exact rfl
               case UU =>
                exact av
               case UW =>
                exact ai
            case UO =>
             exact ai
  have e2:aZ (sg c) (dJ 0)=aZ (sg c) (Str.ofString "\n"):=by rw[T.iN]
  refine⟨_,O,_,O,x,(ay 45),dx,_,_,O,hx,T.aD,T.bz,O,_,_,O,O,_,O,bY (λ(h1:gG c f=true)=>?_) (λ(h1:¬gG c f=true)=>?_)⟩
  ·exact dX (by unfold dW;rw[YA h1]) iF k
  refine⟨_,O,O,_,O,bY (λ(h2:aZ (sg c) (dJ 0)=true)=>?_) (λ(h2:¬aZ (sg c) (dJ 0)=true)=>?_)⟩
  ·rw[e2]at h2
   exact xg (by unfold dW;rw[Yz h1,YA h2]) Ax (aF.refl _) (.inr T.lg) k
  rw[e2]at h2
  refine⟨_,O,_,O,x,(ay 45),dx,_,_,O,hx,T.aD,T.bH,O,_,_,O,O,_,O,bY (λ(h3:gG c q=true)=>?_) (λ(h3:¬gG c q=true)=>?_)⟩
  ·exact⟨_,O,dX (by unfold dW;rw[Yz h1,Yz h2,YA h3]) iF k⟩
  refine⟨_,O,_,O,x,(ay 45),dx,_,_,O,hx,T.aD,T.bF,O,_,_,O,O,_,O,bY (λ(h4:gG c p=true)=>?_) (λ(h4:¬gG c p=true)=>?_)⟩
  ·exact dX (by unfold dW;rw[Yz h1,Yz h2,Yz h3,YA h4]) xh k
  refine⟨_,O,O,_,O,bY (λ(h5:aZ (sg c) (" ":Str)=true)=>?_) (λ(h5:¬aZ (sg c) (" ":Str)=true)=>?_)⟩
  ·refine⟨_,O,x,(ay 45),dx,_,_,O,hx,T.aD,T.cJ,O,_,O,bY (λ(h6:b3=true)=>?_) (λ(h6:¬b3=true)=>?_)⟩
   ·exact⟨_,O,xg (by unfold dW;rw[Yz h1,Yz h2,Yz h3,Yz h4,YA h5,YA h6]) iF (aF.refl _) hs k⟩
   exact dX (by unfold dW;rw[Yz h1,Yz h2,Yz h3,Yz h4,YA h5,Yz h6]) gZ k
  refine cU ?_
  exact dX (by unfold dW;rw[Yz h1,Yz h2,Yz h3,Yz h4,Yz h5]) gZ k
def qo(K:W.Frag)(C:Addr):Sp:=λvs H Q _=>∃(x dx:Addr)(p q f:Str)(b1 b2 b3 b4:Bool)(c:Nat),vs=[.ref x,.str (sg c)]/\H x=some (.ins C dx (yu p q f b1 b2 b3 b4))/\∀v H',aF H H'->uV K H' v (fL p q f b4 c)->Q v H'
theorem qp:bD P w K mg base fT 1 (ay 22) (aO 22) ["dialect","sign"] (qo K (ay 45)):=by
 refine T.jX.ok qb (λvs H Q E h=>?_) (λcdv A outer s H vs Q E hr h=>?_)
 ·obtain⟨x,dx,p,q,f,b1,b2,b3,b4,c,rfl,_⟩:=h;rfl
 ·have hu:=bh hr
  have iz:=hr.aQ
  obtain⟨x,dx,p,q,f,b1,b2,b3,b4,c,rfl,hx,k⟩:=h
  refine'⟨_,?aa,?bb⟩
  case aa =>
   refine' ah ?s0 ?r0
   case s0 =>
    refine' aN ?c1 ?b1 ?e1
    case c1=>exact(c7 cH (pv 1) (aJ K rfl (pv 0) rfl) rfl)
    case b1 =>
     refine' ak ?s2
     case s2 =>
      refine' aA ?v3
      case v3 =>
       refine' aH ?a4
       case a4 =>
        refine' af ?x5 ?y5 ?z5
        case z5=>exact rfl
        case x5 =>
         exact av
        case y5 =>
         refine' af ?x6 ?y6 ?z6
         case z6=>exact rfl
         case x6 =>
          refine' aH ?a7
          case a7 =>
           refine' af ?x8 ?y8 ?z8
           case z8=>exact rfl
           case x8 =>
            exact av
           case y8 =>
            refine' af ?x9 ?y9 ?z9
            case z9=>exact rfl
            case x9 =>
             exact av
            case y9 =>
             exact ai
         case y6 =>
          exact ai
    case e1 =>
     exact aC
   case r0 =>
    refine' ah ?Io ?MI
    case Io =>
     refine' aN ?MJ ?JV ?MK
     case MJ=>exact(eH bB (pv 1) (jt rfl T.jK.choose_spec))
     case JV =>
      refine' ak ?s12
      case s12 =>
       refine' aA ?ML
       case ML =>
        refine' aH ?Hw
        case Hw =>
         refine' af ?JW ?JX ?JY
         case JY=>exact rfl
         case JW =>
          exact av
         case JX =>
          refine' af ?JZ ?J4 ?J5
          case J5=>exact rfl
          case JZ =>
           exact(ju rfl T.k9)
          case J4 =>
           exact ai
     case MK =>
      exact aC
    case MI =>
     refine' ah ?Gh ?J6
     case Gh =>
      refine' aN ?J7 ?Hx ?J8
      case J7=>exact(c7 cH (pv 1) (aJ K rfl (pv 0) rfl) rfl)
      case Hx =>
       refine' ak ?Ka
       case Ka =>
        refine' aA ?v20
        case v20 =>
         refine' aH ?Hy
         case Hy =>
          refine' af ?Kc ?Kd ?Ke
          case Ke=>exact rfl
          case Kc =>
           exact av
          case Kd =>
           refine' af ?Kf ?Kg ?Kh
           case Kh=>exact rfl
           case Kf =>
            refine' aH ?Kl
            case Kl =>
             refine' af ?MN ?MO ?MP
             case MP=>exact rfl
             case MN =>
              exact av
             case MO =>
              refine' af ?MQ ?MR ?MS
              case MS=>exact rfl
              case MQ =>
               exact av
              case MR =>
               exact ai
           case Kg =>
            exact ai
      case J8 =>
       exact aC
     case J6 =>
      refine' ah ?MT ?Pj
      case MT =>
       refine' aN ?Pk ?MU ?Po
       case Pk=>exact(PW.pt (gH (c7 cH (pv 1) (aJ K rfl (pv 0) rfl) rfl) (eY (dQ (cG (aJ K rfl (pv 0) rfl))))))
       case MU =>
        refine' ak ?Pp
        case Pp =>
         refine' aA ?v30
         case v30 =>
          refine' aH ?MV
          case MV =>
           refine' af ?Pq ?Pr ?Pu
           case Pu=>exact rfl
           case Pq =>
            exact av
           case Pr =>
            refine' af ?Pw ?Px ?Py
            case Py=>exact rfl
            case Pw =>
             exact av
            case Px =>
             exact ai
       case Po =>
        exact aC
      case Pj =>
       refine' ak ?UY
       case UY =>
        refine' aA ?UZ
        case UZ =>
         refine' aH ?PF
         case PF =>
          refine' af ?U0 ?U1 ?U3
          case U3=>exact rfl
          case U0 =>
           exact av
          case U1 =>
           refine' af ?U4 ?U5 ?U6
           case U6=>exact rfl
           case U4 =>
            refine' aH ?PJ
            case PJ =>
             refine' af ?U7 ?U8 ?U9
             case U9=>exact rfl
             case U7 =>
              exact av
             case U8 =>
              refine' af ?Va ?Vb ?Vc
              case Vc=>exact rfl
              case Va =>
               exact av
              case Vb =>
               exact ai
           case U5 =>
            exact ai
  have e2:aZ (sg c) (dJ 0)=aZ (sg c) (Str.ofString "\n"):=by rw[T.iN]
  refine⟨_,O,_,O,x,(ay 45),dx,_,_,O,hx,T.aD,T.bz,O,_,_,O,O,_,O,bY (λ(h1:gG c f=true)=>?_) (λ(h1:¬gG c f=true)=>?_)⟩
  ·exact dX (by unfold fL;rw[YA h1]) iF k
  refine⟨_,O,O,_,O,bY (λ(h2:aZ (sg c) (dJ 0)=true)=>?_) (λ(h2:¬aZ (sg c) (dJ 0)=true)=>?_)⟩
  ·rw[e2]at h2
   exact xg (by unfold fL;rw[Yz h1,YA h2]) Ax (aF.refl _) (.inr T.lg) k
  rw[e2]at h2
  refine⟨_,O,_,O,x,(ay 45),dx,_,_,O,hx,T.aD,T.bF,O,_,_,O,O,_,O,bY (λ(h3:gG c p=true)=>?_) (λ(h3:¬gG c p=true)=>?_)⟩
  ·exact dX (by unfold fL;rw[Yz h1,Yz h2,YA h3]) xh k
  refine⟨_,O,_,O,x,(ay 45),dx,_,_,O,hx,T.aD,T.bH,O,_,_,O,O,_,O,bY (λ(h4:gG c q=true)=>?_) (λ(h4:¬gG c q=true)=>?_)⟩
  ·refine⟨_,O,x,(ay 45),dx,_,_,O,hx,T.aD,T.cV,O,_,O,bY (λ(h5:(!b4)=true)=>?_) (λ(h5:¬(!b4)=true)=>?_)⟩
   ·exact tL (by unfold fL;rw[Yz h1,Yz h2,Yz h3,YA h4,YA h5]) k
   exact dX (by unfold fL;rw[Yz h1,Yz h2,Yz h3,YA h4,Yz h5]) gZ k
  refine cU ?_
  exact dX (by unfold fL;rw[Yz h1,Yz h2,Yz h3,Yz h4]) gZ k
def uG(K:W.Frag)(C:Addr):Sp:=λvs H Q _=>∃(x dx:Addr)(p q f:Str)(b1 b2 b3 b4:Bool)(u:Str)(c:Nat),vs=[.ref x,.str u,.str (sg c)]/\H x=some (.ins C dx (yu p q f b1 b2 b3 b4))/\∀v H',aF H H'->uV K H' v (dg f b1 b2 u c)->Q v H'
theorem uH:bD P w K mg base fT 1 (ay 23) (aO 23) ["dialect","quote","sign"] (uG K (ay 45)):=by
 refine T.mG.ok ud (λvs H Q E h=>?_) (λcdv A outer s H vs Q E hr h=>?_)
 ·obtain⟨x,dx,p,q,f,b1,b2,b3,b4,u,c,rfl,_⟩:=h;rfl
 ·have hu:=bh hr
  have iz:=hr.aQ
  obtain⟨x,dx,p,q,f,b1,b2,b3,b4,u,c,rfl,hx,k⟩:=h
  refine'⟨_,?aa,?bb⟩
  case aa =>
   refine' ah ?s0 ?r0
   case s0 =>
    refine' aN ?c1 ?b1 ?e1
    case c1=>exact(c7 cH (pv 2) (aJ K rfl (pv 0) rfl) rfl)
    case b1 =>
     refine' ak ?s2
     case s2 =>
      refine' aA ?v3
      case v3 =>
       refine' aH ?a4
       case a4 =>
        refine' af ?x5 ?y5 ?z5
        case z5=>exact rfl
        case x5 =>
         exact av
        case y5 =>
         refine' af ?x6 ?y6 ?z6
         case z6=>exact rfl
         case x6 =>
          refine' aH ?a7
          case a7 =>
           refine' af ?x8 ?y8 ?z8
           case z8=>exact rfl
           case x8 =>
            exact av
           case y8 =>
            refine' af ?x9 ?y9 ?z9
            case z9=>exact rfl
            case x9 =>
             exact(pv 1)
            case y9 =>
             exact ai
         case y6 =>
          exact ai
    case e1 =>
     exact aC
   case r0 =>
    refine' ah ?Io ?MI
    case Io =>
     refine' aN ?MJ ?JV ?MK
     case MJ=>exact(eH bB (pv 2) (pv 1))
     case JV =>
      refine' ak ?s12
      case s12 =>
       refine' aA ?ML
       case ML =>
        refine' aH ?Hw
        case Hw =>
         refine' af ?JW ?JX ?JY
         case JY=>exact rfl
         case JW =>
          exact av
         case JX =>
          refine' af ?JZ ?J4 ?J5
          case J5=>exact rfl
          case JZ =>
           exact(nJ (cG (aJ K rfl (pv 0) rfl)) (aH (af av (af (pv 1) ai))) (aH (af av (af av ai))))
          case J4 =>
           exact ai
     case MK =>
      exact aC
    case MI =>
     refine' ah ?Gh ?J6
     case Gh =>
      refine' aN ?J7 ?Hx ?J8
      case J7=>exact(PW.pt (gH (eH bB (pv 2) (jt rfl T.jK.choose_spec)) (eY (dQ (cG (aJ K rfl (pv 0) rfl))))))
      case Hx =>
       refine' ak ?Ka
       case Ka =>
        refine' aA ?v20
        case v20 =>
         refine' aH ?Hy
         case Hy =>
          refine' af ?Kc ?Kd ?Ke
          case Ke=>exact rfl
          case Kc =>
           exact av
          case Kd =>
           refine' af ?Kf ?Kg ?Kh
           case Kh=>exact rfl
           case Kf =>
            exact av
           case Kg =>
            exact ai
      case J8 =>
       exact aC
     case J6 =>
      refine' ak ?Vd
      case Vd =>
       refine' aA ?Ve
       case Ve =>
        refine' aH ?PK
        case PK =>
         refine' af ?Vf ?Vg ?Vh
         case Vh=>exact rfl
         case Vf =>
          exact av
         case Vg =>
          refine' af ?Vi ?Vj ?Vk
          case Vk=>exact rfl
          case Vi =>
           refine' aH ?MW
           case MW =>
            refine' af ?PL ?PM ?PN
            case PN=>exact rfl
            case PL =>
             exact av
            case PM =>
             refine' af ?PU ?PV ?PX
             case PX=>exact rfl
             case PU =>
              exact(pv 1)
             case PV =>
              exact ai
          case Vj =>
           exact ai
  have e2:aZ (sg c) (dJ 0)=aZ (sg c) (Str.ofString "\n"):=by rw[T.iN]
  refine⟨_,O,_,O,x,(ay 45),dx,_,_,O,hx,T.aD,T.bz,O,_,_,O,O,_,O,bY (λ(h1:gG c f=true)=>?_) (λ(h1:¬gG c f=true)=>?_)⟩
  ·exact⟨_,O,dX (by unfold dg;rw[YA h1]) iF k⟩
  refine⟨_,O,_,O,O,_,O,bY (λ(h2:aZ (sg c) u=true)=>?_) (λ(h2:¬aZ (sg c) u=true)=>?_)⟩
  ·refine⟨_,O,x,(ay 45),dx,_,_,O,hx,T.aD,T.dI,O,_,O,bY (λ(h3:b1=true)=>?_) (λ(h3:¬b1=true)=>?_)⟩
   ·exact⟨_,O,dX (by unfold dg;rw[Yz h1,YA h2,YA h3]) iF k⟩
   exact dX (by unfold dg;rw[Yz h1,YA h2,Yz h3]) iF k
  refine⟨_,O,O,_,O,bY (λ(h3:aZ (sg c) (dJ 0)=true)=>?_) (λ(h3:¬aZ (sg c) (dJ 0)=true)=>?_)⟩
  ·rw[e2]at h3
   refine⟨_,O,x,(ay 45),dx,_,_,O,hx,T.aD,T.cI,O,_,O,bY (λ(h4:(!b2)=true)=>?_) (λ(h4:¬(!b2)=true)=>?_)⟩
   ·exact tL (by unfold dg;rw[Yz h1,Yz h2,YA h3,YA h4]) k
   exact⟨_,O,dX (by unfold dg;rw[Yz h1,Yz h2,YA h3,Yz h4]) gZ k⟩
  rw[e2]at h3
  refine cU ?_
  exact⟨_,O,dX (by unfold dg;rw[Yz h1,Yz h2,Yz h3]) gZ k⟩
def uI(K:W.Frag)(C:Addr):Sp:=λvs H Q _=>∃(x dx:Addr)(p q f:Str)(b1 b2 b3 b4:Bool)(c:Nat),vs=[.ref x,.str (sg c)]/\H x=some (.ins C dx (yu p q f b1 b2 b3 b4))/\∀v H',aF H H'->uV K H' v (dh p b3 c)->Q v H'
theorem lA:bD P w K mg base fT 1 (ay 24) (aO 24) ["dialect","sign"] (uI K (ay 45)):=by
 refine T.jd.ok uf (λvs H Q E h=>?_) (λcdv A outer s H vs Q E hr h=>?_)
 ·obtain⟨x,dx,p,q,f,b1,b2,b3,b4,c,rfl,_⟩:=h;rfl
 ·have hu:=bh hr
  have iz:=hr.aQ
  obtain⟨x,dx,p,q,f,b1,b2,b3,b4,c,rfl,hx,k⟩:=h
  refine'⟨_,?aa,?bb⟩
  case aa =>
   refine' ah ?s0 ?r0
   case s0 =>
    refine' aN ?c1 ?b1 ?e1
    case c1=>exact(eH bB (pv 1) (jt rfl T.jK.choose_spec))
    case b1 =>
     refine' ak ?s2
     case s2 =>
      refine' aA ?v3
      case v3 =>
       refine' aH ?a4
       case a4 =>
        refine' af ?x5 ?y5 ?z5
        case z5=>exact rfl
        case x5 =>
         exact av
        case y5 =>
         refine' af ?x6 ?y6 ?z6
         case z6=>exact rfl
         case x6 =>
          exact(ju rfl T.k9)
         case y6 =>
          exact ai
    case e1 =>
     exact aC
   case r0 =>
    refine' ah ?s7 ?r7
    case s7 =>
     refine' aN ?c8 ?b8 ?e8
     case c8=>exact(c7 cH (pv 1) (aJ K rfl (pv 0) rfl) rfl)
     case b8 =>
      refine' ak ?s9
      case s9 =>
       refine' aA ?v10
       case v10 =>
        refine' aH ?PY
        case PY =>
         refine' af ?Vl ?Vm ?Vn
         case Vn=>exact rfl
         case Vl =>
          exact av
         case Vm =>
          refine' af ?Vo ?Vp ?Vq
          case Vq=>exact rfl
          case Vo =>
           refine' aH ?Hw
           case Hw =>
            refine' af ?JW ?JX ?JY
            case JY=>exact rfl
            case JW =>
             exact av
            case JX =>
             refine' af ?JZ ?J4 ?J5
             case J5=>exact rfl
             case JZ =>
              exact av
             case J4 =>
              exact ai
          case Vp =>
           exact ai
     case e8 =>
      exact aC
    case r7 =>
     refine' ah ?Gh ?J6
     case Gh =>
      refine' aN ?J7 ?Hx ?J8
      case J7=>exact(PW.pt (gH (eH bB (pv 1) av) (eY (cG (aJ K rfl (pv 0) rfl)))))
      case Hx =>
       refine' ak ?Ka
       case Ka =>
        refine' aA ?v20
        case v20 =>
         refine' aH ?Hy
         case Hy =>
          refine' af ?Kc ?Kd ?Ke
          case Ke=>exact rfl
          case Kc =>
           exact av
          case Kd =>
           refine' af ?Kf ?Kg ?Kh
           case Kh=>exact rfl
           case Kf =>
            refine' aH ?Kl
            case Kl =>
             refine' af ?MN ?MO ?MP
             case MP=>exact rfl
             case MN =>
              exact av
             case MO =>
              refine' af ?MQ ?MR ?MS
              case MS=>exact rfl
              case MQ =>
               exact av
              case MR =>
               exact ai
           case Kg =>
            exact ai
      case J8 =>
       exact aC
     case J6 =>
      refine' ak ?MT
      case MT =>
       refine' aA ?Vr
       case Vr =>
        refine' aH ?MW
        case MW =>
         refine' af ?PL ?PM ?PN
         case PN=>exact rfl
         case PL =>
          exact av
         case PM =>
          refine' af ?PU ?PV ?PX
          case PX=>exact rfl
          case PU =>
           exact av
          case PV =>
           exact ai
  have e2:aZ (sg c) (dJ 0)=aZ (sg c) (Str.ofString "\n"):=by rw[T.iN]
  refine⟨_,O,O,_,O,bY (λ(h1:aZ (sg c) (dJ 0)=true)=>?_) (λ(h1:¬aZ (sg c) (dJ 0)=true)=>?_)⟩
  ·rw[e2]at h1
   exact xg (by unfold dh;rw[YA h1]) Ax (aF.refl _) (.inr T.lg) k
  rw[e2]at h1
  refine⟨_,O,_,O,x,(ay 45),dx,_,_,O,hx,T.aD,T.bF,O,_,_,O,O,_,O,bY (λ(h2:gG c p=true)=>?_) (λ(h2:¬gG c p=true)=>?_)⟩
  ·exact dX (by unfold dh;rw[Yz h1,YA h2]) xh k
  refine⟨_,O,O,_,O,bY (λ(h3:aZ (sg c) (" ":Str)=true)=>?_) (λ(h3:¬aZ (sg c) (" ":Str)=true)=>?_)⟩
  ·refine⟨_,O,x,(ay 45),dx,_,_,O,hx,T.aD,T.cJ,O,_,O,bY (λ(h4:b3=true)=>?_) (λ(h4:¬b3=true)=>?_)⟩
   ·exact dX (by unfold dh;rw[Yz h1,Yz h2,YA h3,YA h4]) iF k
   exact tL (by unfold dh;rw[Yz h1,Yz h2,YA h3,Yz h4]) k
  refine cU ?_
  exact tL (by unfold dh;rw[Yz h1,Yz h2,Yz h3]) k
def qq(K:W.Frag)(C:Addr):Sp:=λvs H Q _=>∃(x dx:Addr)(p q f:Str)(b1 b2 b3 b4:Bool)(u:Str)(c:Nat),vs=[.ref x,.str u,.str (sg c)]/\H x=some (.ins C dx (yu p q f b1 b2 b3 b4))/\∀v H',aF H H'->uV K H' v (jB p b3 u c)->Q v H'
theorem qs:bD P w K mg base fT 2 (ay 25) (aO 25) ["dialect","quote","sign"] (qq K (ay 45)):=by
 have jf:=@lA P w K mg base ay aO dJ T
 refine T.jY.ok qc (λvs H Q E h=>?_) (λcdv A outer s H vs Q E hr h=>?_)
 ·obtain⟨x,dx,p,q,f,b1,b2,b3,b4,u,c,rfl,_⟩:=h;rfl
 ·have hu:=bh hr
  have iz:=hr.aQ
  obtain⟨x,dx,p,q,f,b1,b2,b3,b4,u,c,rfl,hx,k⟩:=h
  refine⟨_,(ah (aN (eH bB (pv 2) (pv 1)) (ak (aA (aH (af av (af (aH (af av (af (pv 1) ai))) ai))))) aC)
   (ak (aA (jS jf hr T.mJ T.jd.kp T.mH (af (pv 0) (af (pv 2) ai)))))),?_⟩
  refine⟨_,O,_,O,O,_,O,bY (λ(h1:aZ (sg c) u=true)=>?_) (λ(h1:¬aZ (sg c) u=true)=>?_)⟩
  ·exact⟨_,O,dX (by unfold jB;rw[YA h1]) gZ k⟩
  refine⟨_,O,_,O,x,dx,p,q,f,b1,b2,b3,b4,c,O,hx,λv H2 s2 r=>k v H2 s2 ?_⟩
  unfold jB
  rw[Yz h1]
  exact r
def ve(K:W.Frag)(C:Addr):Sp:=λvs H Q _=>∃(x dx:Addr)(p q f:Str)(b1 b2 b3 b4:Bool)(u:Str)(c:Nat),vs=[.ref x,.str u,.str (sg c)]/\H x=some (.ins C dx (yu p q f b1 b2 b3 b4))/\∀v H',aF H H'->uV K H' v (gb b2 u c)->Q v H'
theorem vf:bD P w K mg base fT 1 (ay 26) (aO 26) ["dialect","quote","sign"] (ve K (ay 45)):=by
 refine T.oM.ok uX (λvs H Q E h=>?_) (λcdv A outer s H vs Q E hr h=>?_)
 ·obtain⟨x,dx,p,q,f,b1,b2,b3,b4,u,c,rfl,_⟩:=h;rfl
 ·have hu:=bh hr
  have iz:=hr.aQ
  obtain⟨x,dx,p,q,f,b1,b2,b3,b4,u,c,rfl,hx,k⟩:=h
  refine'⟨_,?aa,?bb⟩
  case aa =>
   refine' ah ?s0 ?r0
   case s0 =>
    refine' aN ?c1 ?b1 ?e1
    case c1=>exact(PW.pt (gH (eH bB (pv 2) (jt rfl T.jK.choose_spec)) (eY (dQ (cG (aJ K rfl (pv 0) rfl))))))
    case b1 =>
     refine' ak ?s2
     case s2 =>
      refine' aA ?v3
      case v3 =>
       refine' aH ?a4
       case a4 =>
        refine' af ?x5 ?y5 ?z5
        case z5=>exact rfl
        case x5 =>
         exact av
        case y5 =>
         refine' af ?x6 ?y6 ?z6
         case z6=>exact rfl
         case x6 =>
          exact av
         case y6 =>
          exact ai
    case e1 =>
     exact aC
   case r0 =>
    refine' ak ?s7
    case s7 =>
     refine' aA ?v8
     case v8 =>
      refine' aH ?a9
      case a9 =>
       refine' af ?Vs ?Vt ?Vu
       case Vu=>exact rfl
       case Vs =>
        exact av
       case Vt =>
        refine' af ?Vv ?Vw ?Vx
        case Vx=>exact rfl
        case Vv =>
         exact(nJ (eH bB (pv 1) av) (aH (af av (af av ai))) (aH (af av (af (pv 1) ai))))
        case Vw =>
         exact ai
  have e2:aZ (sg c) (dJ 0)=aZ (sg c) (Str.ofString "\n"):=by rw[T.iN]
  refine⟨_,O,O,_,O,bY (λ(h1:aZ (sg c) (dJ 0)=true)=>?_) (λ(h1:¬aZ (sg c) (dJ 0)=true)=>?_)⟩
  ·rw[e2]at h1
   refine⟨_,O,x,(ay 45),dx,_,_,O,hx,T.aD,T.cI,O,_,O,bY (λ(h2:(!b2)=true)=>?_) (λ(h2:¬(!b2)=true)=>?_)⟩
   ·exact tL (by unfold gb;rw[YA h1,YA h2]) k
   refine⟨_,O,O,_,O,bY (λ(h9:aZ u ("":Str)=true)=>?_) (λ(h9:¬aZ u ("":Str)=true)=>?_)⟩
   ·exact dX (by unfold gb fP;rw[YA h1,Yz h2,YA h9]) gZ k
   exact⟨_,O,dX (by unfold gb fP;rw[YA h1,Yz h2,Yz h9]) gZ k⟩
  rw[e2]at h1
  refine cU ?_
  refine⟨_,O,O,_,O,bY (λ(h9:aZ u ("":Str)=true)=>?_) (λ(h9:¬aZ u ("":Str)=true)=>?_)⟩
  ·exact dX (by unfold gb fP;rw[Yz h1,YA h9]) gZ k
  exact⟨_,O,dX (by unfold gb fP;rw[Yz h1,Yz h9]) gZ k⟩
def xQ(K:W.Frag)(C CT:Addr):Sp:=λvs H Q _=>∃(y s:Addr)(w u:Str)(c:Nat)(p q f:Str)(b1 b2 b3 b4:Bool),vs=[.ref y,.ref s,.str (sg c)]/\Tn C CT H y p q f b1 b2 b3 b4/\bU K H s [.str w,.str u]/\∀v H',aF H H'->uV K H' v (bf p q f b1 b2 b3 b4 w u c)->Q v H'
theorem xR:bD P w K mg base fT 3 (ay 27) (aO 27) ["self","state","sign"] (xQ K (ay 45) (ay 46)):=by
 have mw:=@ly P w K mg base ay aO dJ T
 have jf:=@lA P w K mg base ay aO dJ T
 have xS:=@vf P w K mg base ay aO dJ T
 have rN:=@qs P w K mg base ay aO dJ T
 have rO:=@qp P w K mg base ay aO dJ T
 have vg:=@uH P w K mg base ay aO dJ T
 refine T.zF.ok jG (λvs H Q E h=>?_) (λcdv A outer s H vs Q E hr h=>?_)
 ·obtain⟨y,s,w,u,c,p,q,f,b1,b2,b3,b4,rfl,_⟩:=h;rfl
 ·have hu:=bh hr
  have iz:=hr.aQ
  obtain⟨y,s,w,u,c,p,q,f,b1,b2,b3,b4,rfl,hT,hs,k⟩:=h
  obtain⟨dy,d,dd,hy,hd⟩:=hT.ok
  refine⟨_,(ah (d7 3 jG.nd (nG K (pv 1) ao))
   (ah (d7 4 jG.nd (nG K (pv 1) ao))
   (ah (aN (eH bB (pv 3) av) (ak (aA (jS rO hr T.rA T.jX.kp T.rz (af (aJ K rfl (pv 0) rfl) (af (pv 2) ai))))) aC)
   (ah (aN (eH bB (pv 3) av) (ak (aA (jS vg hr T.u5 T.mG.kp T.u0 (af (aJ K rfl (pv 0) rfl) (af (pv 4) (af (pv 2) ai)))))) aC)
   (ah (aN (eH bB (pv 3) av) (ak (aA (jS rN hr T.rC T.jY.kp T.rB (af (aJ K rfl (pv 0) rfl) (af (pv 4) (af (pv 2) ai)))))) aC)
   (ah (aN (eH bB (pv 3) av) (ak (aA (jS jf hr T.mJ T.jd.kp T.mH (af (aJ K rfl (pv 0) rfl) (af (pv 2) ai))))) aC)
   (ah (aN (eH bB (pv 3) av) (ak (aA (jS xS hr T.xy T.oM.kp T.xx (af (aJ K rfl (pv 0) rfl) (af (pv 4) (af (pv 2) ai)))))) aC)
   (ak (aA (jS mw hr T.lZ T.gw.kp T.lY (af (aJ K rfl (pv 0) rfl) (af (pv 1) (af (pv 2) ai))))))))))))),?_⟩
  refine⟨_,O,s,_,_,_,O,O,hs,O,_,O,s,_,_,_,O,O,hs,O,?_⟩
  refine⟨_,O,O,_,O,bY (λ(h1:aZ w ("plain":Str)=true)=>?_) (λ(h1:¬aZ w ("plain":Str)=true)=>?_)⟩
  ·refine⟨_,O,y,(ay 46),dy,_,_,O,hy,T.fQ,T.bw,O,_,O,d,dd,p,q,f,b1,b2,b3,b4,c,O,hd,λv H2 s2 r=>k v H2 s2 ?_⟩
   rw[zc h1]
   exact r
  refine⟨_,O,O,_,O,bY (λ(h2:aZ w ("within":Str)=true)=>?_) (λ(h2:¬aZ w ("within":Str)=true)=>?_)⟩
  ·refine⟨_,O,y,(ay 46),dy,_,_,O,hy,T.fQ,T.bw,O,_,O,_,O,d,dd,p,q,f,b1,b2,b3,b4,u,c,O,hd,λv H2 s2 r=>k v H2 s2 ?_⟩
   rw[lN h2]
   exact r
  refine⟨_,O,O,_,O,bY (λ(h3:aZ w ("doubt":Str)=true)=>?_) (λ(h3:¬aZ w ("doubt":Str)=true)=>?_)⟩
  ·refine⟨_,O,y,(ay 46),dy,_,_,O,hy,T.fQ,T.bw,O,_,O,_,O,d,dd,p,q,f,b1,b2,b3,b4,u,c,O,hd,λv H2 s2 r=>k v H2 s2 ?_⟩
   rw[tM h3]
   exact r
  refine⟨_,O,O,_,O,bY (λ(h4:aZ w ("behind":Str)=true)=>?_) (λ(h4:¬aZ w ("behind":Str)=true)=>?_)⟩
  ·refine⟨_,O,y,(ay 46),dy,_,_,O,hy,T.fQ,T.bw,O,_,O,d,dd,p,q,f,b1,b2,b3,b4,c,O,hd,λv H2 s2 r=>k v H2 s2 ?_⟩
   rw[vS h4]
   exact r
  refine⟨_,O,O,_,O,bY (λ(h5:aZ w ("freed":Str)=true)=>?_) (λ(h5:¬aZ w ("freed":Str)=true)=>?_)⟩
  ·refine⟨_,O,y,(ay 46),dy,_,_,O,hy,T.fQ,T.bw,O,_,O,_,O,d,dd,p,q,f,b1,b2,b3,b4,u,c,O,hd,λv H2 s2 r=>k v H2 s2 ?_⟩
   rw[nU h5]
   exact r
  refine⟨_,O,y,(ay 46),dy,_,_,O,hy,T.fQ,T.bw,O,_,O,_,O,d,dd,p,q,f,b1,b2,b3,b4,s,w,u,c,O,hd,hs,λv H2 s2 r=>k v H2 s2 ?_⟩
  rw[sL (tN h2) (tN h5) (tN h3) (tN h4)]
  unfold mE
  rw[Yz h1]
  exact r
def oX(K:W.Frag)(C CT:Addr):Sp:=λvs H Q _=>∃(y s:Addr)(w u:Str)(c:Nat)(p q f:Str)(b1 b2 b3 b4:Bool),vs=[.ref y,.ref s,.str (sg c)]/\Tn C CT H y p q f b1 b2 b3 b4/\bU K H s [.str w,.str u]/\∀v H',aF H H'->O9 K (g6 p q f b1 b2 b3 b4 w u c) H' v->Q v H'
theorem oY:bD P w K mg base fT 4 (ay 28) (aO 28) ["self","state","sign"] (oX K (ay 45) (ay 46)):=by
 have zO:=@xR P w K mg base ay aO dJ T
 have CO:=@AY P w K mg base ay aO dJ T
 refine T.qd.ok iJ (λvs H Q E h=>?_) (λcdv A outer s H vs Q E hr h=>?_)
 ·obtain⟨y,s,w,u,c,p,q,f,b1,b2,b3,b4,rfl,_⟩:=h;rfl
 ·have hu:=bh hr
  have iz:=hr.aQ
  obtain⟨y,s,w,u,c,p,q,f,b1,b2,b3,b4,rfl,hT,hs,k⟩:=h
  unfold g6 at k
  refine⟨_,(ah (aN (eH sR (pv 1) cM) (ak (aA cM)) aC)
   (ah (d7 3 iJ.nd (lK (k:=3) (pv 0) T.fQ T.zH zO (hr.mono (by decide)) T.zG .nil gK (af (pv 1) (af (pv 2) ai))))
   (ah (aN (PW.pt (gu (eH bB (nG K (pv 3) ao) av) (fZ (dQ (cG (jS CO hr T.CD T.wA.kp T.CC (af (aJ K rfl (pv 0) rfl) (af (nG K (pv 3) ao) ai)))))))) (ak (aA cM)) aC)
   (ak (aA (pv 3)))))),?_⟩
  obtain⟨dy,d,dd,ey,ed⟩:=hT.ok
  refine⟨_,rfl,rfl,_,rfl,jw (λz=>nomatch z) ⟨_,rfl,y,dy,_,rfl,ey,rfl,_,rfl,_,rfl,y,s,w,u,c,p,q,f,b1,b2,b3,b4,rfl,hT,hs,λv H5 s5 r=>?_⟩⟩
  cases NO:bf p q f b1 b2 b3 b4 w u c with
  |go kd w3 u3 =>
   rw[NO]at r k
   obtain⟨hk,a,b,rfl,ha,hb⟩:=r
   have Vy:=s5 _ _ ey
   have Vz:=s5 _ _ ed
   have k:∀v H',aF H H'->O9 K (if dY f w3 u3=true then some (kd,w3,u3) else none) H' v->Q v H':=k
   refine⟨_,O,a,_,_,_,O,O,ha,O,O,_,O,tK hk ?_⟩
   refine⟨_,O,y,_,_,_,_,O,Vy,T.fQ,T.bw,O,_,O,a,_,_,_,O,O,ha,O,d,dd,b,w3,u3,p,q,f,b1,b2,b3,b4,O,Vz,hb,_,O,?_⟩
   by_cases hL:dY f w3 u3=true
   ·rw[YA hL]at k
    exact Iw hL ⟨_,rfl,k _ _ s5 ⟨a,b,rfl,ha,hb⟩⟩
   ·rw[Yz hL]at k
    exact Mu (tN hL) (k _ _ s5 rfl)
  |nH e =>
   rw[NO]at r k
   obtain⟨a,rfl,ha⟩:=r
   have k:∀v H',aF H H'->O9 K none H' v->Q v H':=k
   exact⟨_,O,a,_,_,_,O,O,ha,O,O,_,O,EA (aI _) (kC (k _ _ s5 rfl))⟩
def kg(K:W.Frag)(C CT CM:Addr):Sp:=λvs H Q _=>∃(m:Addr)(v:V)(mk:aV)(c:Nat)(ts:List (Str×Str))(p q f:Str)(b1 b2 b3 b4:Bool),vs=[.ref m,v,.str (sg c)]/\Cs K C CT CM H m p q f b1 b2 b3 b4 ts/\cE K H mk v/\∀v' H',aF H H'->nc K (oh p q f b1 b2 b3 b4 ts mk c) H' v'->Q v' H'
theorem kh:bD P w K mg base fT 5 (ay 29) (aO 29) ["self","mark","sign"] (kg K (ay 45) (ay 46) (ay 47)):=by
 have qt:=@oY P w K mg base ay aO dJ T
 have uJ:=@rM P w K mg base ay aO dJ T
 refine T.kY.ok c6 (λvs H Q E h=>?_) (λcdv A outer s H vs Q E hr h=>?_)
 ·obtain⟨m,v,mk,c,ts,p,q,f,b1,b2,b3,b4,rfl,_⟩:=h;rfl
 ·have hu:=bh hr
  have iz:=hr.aQ
  obtain⟨m,v,mk,c,ts,p,q,f,b1,b2,b3,b4,rfl,hM,hv,k⟩:=h
  obtain⟨dm,y,l,ys,em,eT,el,tp⟩:=hM.ok
  obtain⟨b,s,rfl,hb,hs⟩:=hv
  obtain⟨dy,d,dd,ey,ed⟩:=eT.ok
  refine⟨_,(ah (aN (eH sR (pv 1) cM) (ak (aA cM)) aC)
   (ah (d7 3 c6.nd (lK (k:=4) (aJ K rfl (pv 0) rfl) T.fQ T.qf qt (hr.mono (by decide)) T.qe .nil gK (af (nG K (pv 1) ao) (af (pv 2) ai))))
   (ah (aN (eH sR (pv 3) cM) (ak (aA cM)) aC)
   (ah (d7 4 c6.nd (jS uJ hr T.uw T.kX.kp T.uv (af (aJ K rfl (pv 0) rfl) (af (nG K (pv 1) ao) (af (nG K (pv 3) ao) (af (pv 2) ai))))))
   (ak (aA (nJ (eH sR (pv 4) cM) cM (aH (af (nG K (pv 3) ao) (af (pv 4) ai)))))))))),?_⟩
  unfold oh at k
  refine⟨_,rfl,rfl,_,rfl,jw (λz=>nomatch z) (⟨_,rfl,_,_,_,_,_,rfl,em,T.fO,T.fR,rfl,_,_,_,rfl,ey,rfl,_,rfl,_,_,_,_,rfl,rfl,hb,rfl,_,rfl,_,_,_,_,_,_,_,_,_,_,_,_,rfl,eT,hs,λv5 H5 s5 r=>?_⟩)⟩
  cases hL:g6 p q f b1 b2 b3 b4 mk.1.1 mk.1.2 c with
  |none =>
   rw[hL]at r k
   have r:v5=.non:=r
   subst r
   have k:∀v' H',aF H H'->nc K none H' v'->Q v' H':=k
   exact⟨_,O,O,_,O,K9 rfl (k _ _ s5 rfl)⟩
  |some VA =>
   obtain⟨kd,w3,u3⟩:=VA
   rw[hL]at r k
   obtain⟨a,b2,rfl,ha,hb2⟩:=r
   have k:∀v' H',aF H H'->nc K (match m9 ts mk.2 kd (sg c) with|none=>none|some n=>some ((w3,u3),n)) H' v'->Q v' H':=k
   have NP:=s5 _ _ em
   have VB:=s5 _ _ el
   have VC:=eN s5 tp
   have VD:=aL s5 hb
   refine⟨_,rfl,rfl,_,rfl,jw (λz=>nomatch z) ?_⟩
   refine⟨_,O,_,_,_,_,_,O,NP,T.fO,T.cW,O,_,O,_,_,_,_,O,O,VD,O,_,O,_,_,_,_,O,O,ha,O,_,O,l,ys,ts,mk.2,kd,sg c,O,VB,VC,λH6 s6=>?_⟩
   have R8:=s5.trans s6
   cases hC:m9 ts mk.2 kd (sg c) with
   |none =>
    rw[hC]at k
    exact⟨_,O,O,_,O,K9 rfl (k _ _ R8 rfl)⟩
   |some n =>
    rw[hC]at k
    refine⟨_,rfl,rfl,_,rfl,jw (λz=>nomatch z) ⟨_,rfl,_,_,_,_,rfl,rfl,aL s6 ha,rfl,_,rfl,(by show 2<=sizeLine;decide),λt ht=>?_⟩⟩
    exact k _ _ (R8.trans (au ht)) ⟨t,b2,rfl,bU.of aj,aL (s6.trans (au ht)) hb2⟩
def jL(K:W.Frag)(C CT CM:Addr):Sp:=λvs H Q _=>∃(m:Addr)(v:V)(mk:aV)(ts:List (Str×Str))(p q f:Str)(b1 b2 b3 b4:Bool),vs=[.ref m,v]/\Cs K C CT CM H m p q f b1 b2 b3 b4 ts/\cE K H mk v/\∀H',aF H H'->Q (.bl (decide (mk=((Str.ofString "row",("":Str)),ts.length)))) H'
theorem jM:bD P w K mg base fT 1 (ay 30) (aO 30) ["self","mark"] (jL K (ay 45) (ay 46) (ay 47)):=by
 refine T.j8.ok jH (λvs H Q E h=>?_) (λcdv A outer s H vs Q E hr h=>?_)
 ·obtain⟨m,v,mk,ts,p,q,f,b1,b2,b3,b4,rfl,_⟩:=h;rfl
 ·have hu:=bh hr
  have iz:=hr.aQ
  obtain⟨m,v,mk,ts,p,q,f,b1,b2,b3,b4,rfl,hM,hv,k⟩:=h
  have lq:=hr.units
  obtain⟨dm,y,l,ys,em,eT,el,tp⟩:=hM.ok
  obtain⟨b,s,rfl,hb,hs⟩:=hv
  have tl:=tp.length
  refine⟨_,(ak (aA (Gb (Eo (YM _ _ K) rfl (hn1 lq)) (pv 1) (aH (af (ju rfl T.k9) (af (kq (bu K rfl) T.cD (af (aJ K rfl (pv 0) rfl) ai)) ai)))))),?_⟩
  refine⟨_,O,_,O,_,_,_,_,_,O,em,T.fO,T.cW,O,_,_,O,.inl (aX.of el),(by show(2:Nat)<=sizeLine;decide),λt ht=>?_⟩
  (have st:=au (o:=HO.tup [V.ref (ay 53),V.int ↑ys.length]) ht;have g1:=aj (H:=H) (a:=t) (o:=HO.tup [V.ref (ay 53),V.int ↑ys.length]);generalize upd H t (HO.tup [V.ref (ay 53),V.int ↑ys.length])=H1 at st g1⊢)
  have e1:pN (YM _ _ K) H1 (bS mk) b:=iD (P:=P) (w:=w) (aL st hb) (aL st hs)
  have e2:pN (YM _ _ K) H1 (bS ((Str.ofString "row",("":Str)),ts.length)) t:=iD (P:=P) (w:=w) (m:=((Str.ofString "row",("":Str)),ts.length)) (by rw[←tl];exact bU.of g1) (.inr T.lg)
  refine⟨b,t,_,_,O,O,e1,e2,?_⟩
  have ed:decide (bS mk=bS ((Str.ofString "row",("":Str)),ts.length))=decide (mk=((Str.ofString "row",("":Str)),ts.length)):=by rw[Zu,decide_eq_true_iff,decide_eq_true_iff];exact pO
  rw[ed]
  exact k _ st
def rP(K:W.Frag)(C CT CM CW:Addr):Sp:=λvs H Q _=>∃(x:Addr)(v:V)(mk:aV)(ts:List (Str×Str))(p q f:Str)(b1 b2 b3 b4:Bool),vs=[.ref x,v]/\JH K C CT CM CW H x p q f b1 b2 b3 b4 ts/\cE K H mk v/\Gd p q f/\mk.2<ts.length/\(∀t∈ts,t.2.length<=1)/\∀l vs H',H l=none->H' l=some (.lst vs)->kM K H' vs (cL p q f b1 b2 b3 b4 ts mk)->aF H H'->Q (.ref l) H'
theorem rQ:bD P w K mg base fT 6 (ay 31) (aO 31) ["self","place"] (rP K (ay 45) (ay 46) (ay 47) (ay 48)):=by
 have lB:=@kh P w K mg base ay aO dJ T
 have AS:=@BR P w K mg base ay aO dJ T
 refine T.ux.ok gh (λvs H Q E h=>?_) (λcdv A outer s H vs Q E hr h=>?_)
 ·obtain⟨x,v,mk,ts,p,q,f,b1,b2,b3,b4,rfl,_⟩:=h;rfl
 ·have hu:=bh hr
  have iz:=hr.aQ
  obtain⟨x,v,mk,ts,p,q,f,b1,b2,b3,b4,rfl,hW,hv,g,hn,ht1,k⟩:=h
  obtain⟨dx,m,l,ys,ex,eM,el,tp⟩:=hW.ok
  obtain⟨b,s,rfl,hb,hs⟩:=hv
  refine⟨_,(ah (d7 2 gh.nd (jS AS hr T.Ff T.AJ.kp T.Fe (af (aE bQ (aJ K rfl (pv 0) rfl) (nG K (qK K (aJ K rfl (pv 0) rfl) (nG K (pv 1) ao)) ao)) ai)))
   (ah (Bs (i:=3) rfl gh.nd rfl rfl (show bq ["self","place","signs","found"] (aq dD) ["sign","place","self"] 1 [1,0] _ from Dj) (mZ (pv 2)) (λ_ _ _ _=>(m6 0 (show(["sign","place","self"]:List Str).Nodup by decide +kernel))) (λ_ _ _ _=>dM) (λ_ _ _ _=>(aH (af (pv 0) (af (lK (k:=5) (aJ K rfl (pv 2) rfl) T.fO T.k6 lB (hr.mono (by decide)) T.kZ .nil gK (af (pv 1) (af (pv 0) ai))) ai)))))
   (ak (aA (eZ rfl (show bq ["self","place","signs","found"] (aq dD) ["lead"] 1 [] _ from Dj) (cg K rfl (pv 3)) (λ_ _ _ _=>(m6 0 Ga)) (λ_ _ _ _=>(GJ (eH wO (nG K (pv 0) ao) cM))) (λ_ _ _ _=>(pv 0))))))),?_⟩
  have tl:=tp.length
  obtain⟨t,ht⟩:∃t,ts[mk.2]?=some t:=⟨_,YV hn⟩
  obtain⟨y,hy⟩:∃y,ys[mk.2]?=some y:=⟨_,YV (by omega)⟩
  obtain⟨t',ht',a,rfl,ha⟩:=aP tp mk.2 y hy
  rw[ht]at ht';cases ht'
  have hat:zV ys (mk.2:Int)=some (.ref a):=iB hy
  have hl1:=ht1 t (YT ht)
  have sl:=pX ((p++q)++f)
  have a1:=cR p q
  have a2:=cR (p++q) f
  have hp3:=g.p3;have hq2:=g.q2;have hf2:=g.f2
  have ul:(Dk p q f).length<=9:=by
   unfold Dk
   have n1:(Str.ofString "\n").length=1:=by decide +kernel
   have n2:(" ":Str).length=1:=by decide +kernel
   have a3:=cR (iH ((p++q)++f)) (Str.ofString "\n")
   have a4:=cR (iH ((p++q)++f)++Str.ofString "\n") (" ":Str)
   omega
  have a5:=cR (Dk p q f) t.2
  have MH:1000<=sizeLine:=by decide
  have sl2:=pX (Dk p q f++t.2)
  refine⟨_,O,_,_,_,_,_,O,ex,T.dP,T.fk,O,_,O,_,_,_,_,_,O,ex,T.dP,T.d9,O,_,O,_,_,_,_,O,O,hb,O,_,_,_,_,O,O,aX.of el,hat,_,_,_,_,O,O,ha,O,_,_,O,O,(by omega),_,O,(by omega),_,O,_,O,λD hD=>?_⟩
  have PZ:(iH (Dk p q f++t.2)).cps.toList.length<=20:=by rw[YX];show(iH (Dk p q f++t.2)).length<=20;omega
  have P4:cL p q f b1 b2 b3 b4 ts mk=(iH (Dk p q f++t.2)).cps.toList.filterMap λc=>(oh p q f b1 b2 b3 b4 ts mk c).map λm'=>(c,m'):=by unfold cL;rw[ht]
  rw[P4]at k
  generalize iH (Dk p q f++t.2)=zs at PZ k⊢
  refine nO (z:=zs) (λi vs τ J=>(∃v,τ=[v,some (.ref b),some (.ref x)])/\aF H J/\J D=some (.lst vs)/\qV K (oh p q f b1 b2 b3 b4 ts mk) J vs (zs.cps.toList.take i)) ⟨⟨_,rfl⟩,au hD,aj,.nil⟩ (λi vs τ J _ p=>p.2.2.1) ?_ ?_
  ·rintro i c vs τ J hi ⟨⟨v,rfl⟩,sJ,hJ,fd⟩
   have hil:i<zs.cps.toList.length:=(YG.mp hi).1
   have hvl:=fd.length
   rw[Zn]at hvl
   have R9:=eM.mono sJ
   obtain⟨dm,y,l',ys',em,eT,VE,tp'⟩:=R9.ok
   refine pU ?_
   refine⟨_,O,_,O,_,_,_,_,_,O,sJ _ _ ex,T.dP,T.cX,O,_,_,_,O,em,O,_,O,_,O,m,.ref b,mk,c,ts,p,q,f,b1,b2,b3,b4,O,R9,⟨b,s,O,aL sJ hb,aL sJ hs⟩,λv' J2 s2 hv'=>?_⟩
   refine⟨(by show 2<=sizeLine;decide),λt2 MX=>?_⟩
   have st:=au (o:=HO.tup [.str (sg c),v']) MX
   have P5:=st _ _ (s2 _ _ hJ)
   refine⟨P5,YO (show vs.length<=100 by omega) (by decide),⟨_,O⟩,aK hD (sJ.trans (s2.trans st)),aj,?_⟩
   rw[aM hi]
   exact dG (qV.but P5 (qV.mono (s2.trans st) fd)) (qV.but P5 (.cons ⟨t2,v',rfl,aj,nc.mono st hv'⟩ .nil))
  rintro vs τ J ⟨⟨v,rfl⟩,sJ,hJ,fd⟩
  rw[YR (YB _)]at fd
  have hvl:=fd.length
  dsimp only[bA]
  refine⟨_,O,D,O,⟨_,aX.of hJ⟩,λL hL=>?_⟩
  refine fG (K:=K) (a:=D) (xs:=vs) (λi us τ G=>(∃v,τ=[v])/\aF J G/\G L=some (.lst us)/\us.length<=i/\kM K G us ((zs.cps.toList.take i).filterMap λc=>(oh p q f b1 b2 b3 b4 ts mk c).map λm'=>(c,m'))) ⟨⟨_,rfl⟩,au hL,aj,YB _,.nil⟩ (λi us τ G _ p=>⟨aX.of (p.2.1 _ _ hJ),p.2.2.1⟩) ?_ ?_
  ·rintro i e us τ G hi ⟨⟨v,rfl⟩,sG,hG,VF,ld⟩
   have hil:i<vs.length:=(YG.mp hi).1
   obtain⟨c,hc,t2,w2,rfl,h2,hm⟩:=aP fd i e hi
   have P6:=sG _ _ h2
   have Lh:=nc.mono sG hm
   rw[aM hc,List.filterMap_append]
   cases hM:oh p q f b1 b2 b3 b4 ts mk c with
   |none =>
    rw[hM]at Lh
    have Lh:w2=.non:=Lh
    subst Lh
    refine⟨_,O,t2,_,_,_,O,O,bU.of P6,O,O,_,O,OZ rfl ⟨⟨_,O⟩,sG,hG,by omega,?_⟩⟩
    rw[ZW,hM]
    simpa using ld
   |some m' =>
    rw[hM]at Lh
    obtain⟨b3,s3,rfl,q1,q2⟩:=(show cE K G m' w2 from Lh)
    refine⟨_,rfl,t2,_,_,_,rfl,rfl,bU.of P6,rfl,rfl,_,rfl,O0 (λz=>nomatch z) ⟨_,rfl,hG,YO (show us.length<=100 by omega) (by decide),⟨_,rfl⟩,aK hL sG,aj,by rw[YE];show us.length+1<=_;omega,?_⟩⟩
    rw[ZW,hM]
    exact dG (kM.but hG ld) (kM.but hG (.cons ⟨t2,_,rfl,P6,⟨b3,s3,rfl,q1,q2⟩⟩ .nil))
  ·rintro us τ G ⟨⟨v,rfl⟩,sG,hG,VF,ld⟩
   rw[hvl,YR (YB _)]at ld
   exact k L us G (sJ.free hL) hG ld (sJ.trans sG)
def oZ(K:W.Frag)(C CT CM CW:Addr):Sp:=λvs H Q _=>∃(x:Addr)(v:V)(mk:aV)(ts:List (Str×Str))(p q f:Str)(b1 b2 b3 b4:Bool),vs=[.ref x,v]/\JH K C CT CM CW H x p q f b1 b2 b3 b4 ts/\cE K H mk v/\∀H',aF H H'->Q (.bl (decide (mk=((Str.ofString "row",("":Str)),ts.length)))) H'
theorem o4:bD P w K mg base fT 2 (ay 32) (aO 32) ["self","place"] (oZ K (ay 45) (ay 46) (ay 47) (ay 48)):=by
 have ki:=@jM P w K mg base ay aO dJ T
 refine T.qg.ok ou (λvs H Q E h=>?_) (λcdv A outer s H vs Q E hr h=>?_)
 ·obtain⟨x,v,mk,ts,p,q,f,b1,b2,b3,b4,rfl,_⟩:=h;rfl
 ·have hu:=bh hr
  have iz:=hr.aQ
  obtain⟨x,v,mk,ts,p,q,f,b1,b2,b3,b4,rfl,hW,hv,k⟩:=h
  obtain⟨dx,m,l,ys,ex,eM,el,tp⟩:=hW.ok
  obtain⟨dm,y,l',ys',em,eT,VE,tp'⟩:=eM.ok
  refine⟨_,(ak (aA (lK (k:=1) (aJ K rfl (pv 0) rfl) T.fO T.kc ki (hr.mono (by decide)) T.j9 .nil gK (af (pv 1) ai)))),?_⟩
  exact⟨_,O,_,_,_,_,_,O,ex,T.dP,T.cX,O,_,_,_,O,em,O,_,O,m,v,mk,ts,p,q,f,b1,b2,b3,b4,O,eM,hv,k⟩
def CP(P:Program)(w:World)(K:W.Frag)(C CT CM CW:Addr):Sp:=λvs H Q _=>∃(x:Addr)(v:V)(U:List aV)(ts:List (Str×Str))(p q f:Str)(b1 b2 b3 b4:Bool),vs=[v,.ref x,.non]/\JH K C CT CM CW H x p q f b1 b2 b3 b4 ts/\Gd p q f/\cE K H m0 v/\(∀t∈ts,t.2.length<=1)/\U.length<=100000/\m0∈U/\(∀m∈U,m.2<ts.length->∀e∈cL p q f b1 b2 b3 b4 ts m,e.2∈U)/\(∀m∈U,m.2<ts.length\/BD ts m=true)/\∀t rv r a cm H',H a=none->cm.length<=U.length->H' t=some (.tup [rv,.ref a])->nc K r H' rv->cS P w K H' a cm->xj (BD ts) (cL p q f b1 b2 b3 b4 ts) [(m0,none)] [m0] r cm->aF H H'->Q (.ref t) H'
theorem CQ:bD P w K mg base fT 7 (ay 33) (aO 33) ["first","searched","most"] (CP P w K (ay 45) (ay 46) (ay 47) (ay 48)):=by
 have qv:=@o4 P w K mg base ay aO dJ T
 have uK:=@rQ P w K mg base ay aO dJ T
 refine T.zI.ok eO (λvs H Q E h=>?_) (λcdv A outer s H vs Q E hr h=>?_)
 ·obtain⟨x,v,U,ts,p,q,f,b1,b2,b3,b4,rfl,_⟩:=h;rfl
 ·have hu:=bh hr
  have iz:=hr.aQ
  obtain⟨x,v,U,ts,p,q,f,b1,b2,b3,b4,rfl,hW,g,hv,ht1,Yp,Sa,hU,VG,k⟩:=h
  have lq:=hr.units
  obtain⟨b,s,rfl,hb,hs⟩:=hv
  refine⟨_,(ah (d7 3 eO.nd (Cn (YM P w K) (bG P w) rfl rfl rfl (hn1 lq) (pv 0) cM))
   (ah (d7 4 eO.nd (dS (af (pv 0) ai)))
   (ah (yF Zh (eH (GP K rfl iz) (pv 4) (dS ai))
   (ah (dR Zh rfl (cg K rfl (pv 4)) (m6 5 eO.nd)
   (ak (aN (cG (lK (k:=2) (pv 1) T.dP T.qi qv (hr.mono (by decide)) T.qh .nil gK (af (pv 5) ai))) (ak (aA (aH (af (pv 5) (af (pv 3) ai))))) aC)))
   (ah (aN (PW.pt (gH (eH wO (pv 2) cM) (eY (eH sQ (kq (bu K rfl) T.cD (af (pv 3) ai)) (pv 2))))) (ak (aA (aH (af cM (af (pv 3) ai))))) aC)
   (ah (d7 6 eO.nd (dS ai))
   (ah (dR Zh rfl (cg K rfl (pv 4)) (m6 5 eO.nd)
   (ak (dR Zh rfl (cg K rfl (lK (k:=6) (pv 1) T.dP T.uz uK (hr.mono (by decide)) T.uy .nil gK (af (pv 5) ai))) (m6 7 eO.nd)
   (ak (aN (IU (Au (YM P w K) (bG P w) rfl rfl rfl (hn2 lq) (nG K (pv 7) ao) (pv 3))) (ah (Ep (YM P w K) (bG P w) rfl rfl rfl (hn2 lq) (pv 3) (nG K (pv 7) ao) (aH (af (pv 5) (af (nG K (pv 7) ao) ai))) rfl)
   (ak (cN (dw K rfl Y9 Zb Zc bL (pv 6) (af (nG K (pv 7) ao) ai))))) aC)))))
   (ak (d7 4 eO.nd (pv 6))))))))
   (ak (aA (aH (af cM (af (pv 3) ai)))))))),?_⟩
  refine λa ha=>?_
  have sA:=au (o:=dN (ZM P w) (bG P w) a []) ha
  refine⟨_,rfl,bS m0,b,rfl,aj,iD (P:=P) (w:=w) (m:=m0) (aL sA hb) (aL sA hs),?_⟩
  have c1:cS P w K (upd (upd H a (dN (ZM P w) (bG P w) a [])) a (dN (ZM P w) (bG P w) a [(bS m0,b,.non)])) a [(m0,none)]:=cS.one aj ⟨b,s,rfl,aL sA hb,aL sA hs⟩
  have s1:aF H (upd (upd H a (dN (ZM P w) (bG P w) a [])) a (dN (ZM P w) (bG P w) a [(bS m0,b,.non)])):=aK ha sA
  generalize upd (upd H a (dN (ZM P w) (bG P w) a [])) a (dN (ZM P w) (bG P w) a [(bS m0,b,.non)])=H1 at c1 s1⊢
  refine⟨_,O,(by show 1<=sizeLine;decide),λl0 Lg=>?_⟩
  have s2:=au (o:=HO.lst [.ref b]) Lg
  have g2:=aj (H:=H1) (a:=l0) (o:=HO.lst [.ref b])
  generalize upd H1 l0 (.lst [.ref b])=H2 at s2 g2⊢
  have s12:=s1.trans s2
  dsimp only[bA]
  refine⟨λn σ J=>∃l vs bE cm v5 v6 v7,σ=[some (.ref b),some (.ref x),some .non,some (.ref a),some (.ref l),v5,v6,v7]/\aF H J/\J l=some (.lst vs)/\tT K J vs bE/\cS P w K J a cm/\Iz U cm/\(∀m∈bE,m∈U)/\(∀r zW,xj (BD ts) (cL p q f b1 b2 b3 b4 ts) cm bE r zW->xj (BD ts) (cL p q f b1 b2 b3 b4 ts) [(m0,none)] [m0] r zW)/\n=2*(U.length-cm.length)+(if bE=[] then 0 else 1),⟨_,l0,_,[m0],_,_,_,_,O,s12,g2,.cons ⟨b,s,O,aL s12 hb,aL s12 hs⟩ .nil,c1.mono s2,⟨by simp,λm hm=>?_⟩,λm hm=>?_,λr zW q=>q,O⟩,?_⟩
  ·rw[YF.mp hm];exact Sa
  ·rw[YF.mp hm];exact Sa
  rintro n σ J ⟨l,vs,bE,cm,v5,v6,v7,rfl,sJ,hl,em,ca,iu,eU,hR,hn⟩
  refine⟨_,O,(by decide),λe he=>⟨_,_,_,O,O,aX.of (au he _ _ hl),aX.of aj,_,O,?_⟩⟩
  have se:=au (o:=HO.lst []) he
  replace sJ:=sJ.trans se
  replace hl:=se _ _ hl
  replace em:=em.keep λb xs q=>aL se q
  replace ca:=ca.mono se
  generalize upd J e (.lst [])=J1 at sJ hl em ca⊢
  clear se he
  cases em with
  |nil =>
   refine cU ⟨_,rfl,(by show 2<=sizeLine;decide),λt ht=>?_⟩
   exact k t .non none a cm _ ha iu.len aj rfl (ca.mono (au ht)) (hR _ _ .stop) (sJ.trans (au ht))
  |@cons v1 e1 vs bE h1 em =>
  have em:tT K J1 (v1::vs) (e1::bE):=.cons h1 em
  have hne:e1::bE≠[]:=λq=>nomatch q
  refine kC ?_
  generalize e1::bE=bE at em hne hn hR eU
  generalize v1::vs=vs at em hl
  rw[Yz hne]at hn
  refine⟨λσ G=>∃l vs v5 v6 v7,σ=[some (.ref b),some (.ref x),some .non,some (.ref a),some (.ref l),v5,v6,v7]/\bE.find? (BD ts)=none/\aF H G/\G l=some (.lst vs)/\tT K G vs (expand (cL p q f b1 b2 b3 b4 ts) cm bE).2/\cS P w K G a (expand (cL p q f b1 b2 b3 b4 ts) cm bE).1/\Iz U (expand (cL p q f b1 b2 b3 b4 ts) cm bE).1/\∀m∈(expand (cL p q f b1 b2 b3 b4 ts) cm bE).2,m∈U,?_,?_⟩
  ·rintro σ G ⟨l,vs,v5,v6,v7,rfl,hf,sG,hl,em,ca,IG,VH⟩
   refine⟨_,?_,l,vs,_,_,v5,v6,v7,O,sG,hl,em,ca,IG,VH,λr zW q=>hR r zW (.go hne hf q),O⟩
   have e1:=tV (led:=cL p q f b1 b2 b3 b4 ts) bE (cm,[])
   have e2:=IG.len
   have e3:=iu.len
   unfold expand at e2⊢
   rw[hn]
   simp only[List.length_nil,Nat.add_zero]at e1
   by_cases q:(bE.foldl (jb (cL p q f b1 b2 b3 b4 ts)) (cm,[])).2=[]
   ·rw[YA q];rw[q,List.length_nil]at e1;omega
   ·rw[Yz q]
    have:=List.length_pos_iff.mpr q
    omega
  refine⟨_,O,l,O,⟨_,aX.of hl⟩,?_⟩
  refine gI (K:=K) (a:=l) (xs:=vs) (λi σ G=>aF J1 G/\(∀m∈bE.take i,BD ts m=false)/\∃v5,σ=[some (.ref b),some (.ref x),some .non,some (.ref a),some (.ref l),v5,v6,v7]) ⟨aF.refl _,(λm hm=>nomatch hm),_,rfl⟩ (λi σ G _ q=>aX.of (q.1 _ _ hl)) ?_ ?_
  ·rintro i e2 σ G hi ⟨sG,hno,Li,rfl⟩
   obtain⟨m,hm,hv⟩:=aP em i e2 hi
   have Km:=hv.mono sG
   have MY:=hW.mono (sJ.trans sG)
   obtain⟨dx,mm,ll,ys,ex,eM,el,tp⟩:=MY.ok
   obtain⟨bx,sx,rfl,q1,q2⟩:=id Km
   dsimp only[bA]
   refine⟨_,O,_,_,_,O,ex,O,_,O,x,.ref bx,m,ts,p,q,f,b1,b2,b3,b4,O,MY,Km,λG2 s2=>⟨_,O,?_⟩⟩
   by_cases hg:BD ts m=true
   ·refine EA hg ⟨_,rfl,_,rfl,(by show 2<=sizeLine;decide),λt ht=>?_⟩
    have st:=(sG.trans s2).trans (au (o:=HO.tup [.ref bx,.ref a]) ht)
    exact k t _ (some m) a cm _ ha iu.len aj (hv.mono st) (ca.mono st) (hR _ _ (.found (G6 hm hg hno))) (sJ.trans st)
   ·refine tK (tN hg) ⟨sG.trans s2,λm' hm'=>?_,_,rfl⟩
    rw[aM hm]at hm'
    rcases Y3.mp hm' with z|z
    ·exact hno m' z
    ·rw[YF.mp z];exact tN hg
  rintro σ G ⟨sG,hno,Li,rfl⟩
  rw[em.length,YR (YB _)]at hno
  have hf:=G7 hno
  replace sJ:=sJ.trans sG
  replace hl:=sG _ _ hl
  replace em:=em.keep λb xs q=>aL sG q
  replace ca:=ca.mono sG
  clear sG
  dsimp only[bA]
  refine⟨_,O,O,_,O,OZ rfl (cU (⟨(by decide),λlf Lj=>⟨_,O,_,O,⟨_,aX.of (au Lj _ _ hl)⟩,?_⟩⟩))⟩
  have sf:=au (o:=HO.lst []) Lj
  have MZ:=aj (H:=G) (a:=lf) (o:=HO.lst [])
  have VI:lf≠l:=λq=>by rw[q,hl]at Lj;cases Lj
  have VJ:H lf=none:=sJ.free Lj
  replace sJ:=sJ.trans sf
  replace hl:=sf _ _ hl
  replace em:=em.keep λb xs q=>aL sf q
  replace ca:=ca.mono sf
  generalize upd G lf (.lst [])=G1 at sJ hl em ca MZ⊢
  clear sf Lj
  refine gI (K:=K) (a:=l) (xs:=vs) (λi σ J=>aF H J/\J l=some (.lst vs)/\tT K J vs bE/\∃fv v5 v7,σ=[some (.ref b),some (.ref x),some .non,some (.ref a),some (.ref l),v5,some (.ref lf),v7]/\J lf=some (.lst fv)/\tT K J fv ((bE.take i).foldl (jb (cL p q f b1 b2 b3 b4 ts)) (cm,[])).2/\cS P w K J a ((bE.take i).foldl (jb (cL p q f b1 b2 b3 b4 ts)) (cm,[])).1/\Iz U ((bE.take i).foldl (jb (cL p q f b1 b2 b3 b4 ts)) (cm,[])).1/\∀m∈((bE.take i).foldl (jb (cL p q f b1 b2 b3 b4 ts)) (cm,[])).2,m∈U) ⟨sJ,hl,em,[],_,_,rfl,MZ,.nil,ca,iu,λm hm=>nomatch hm⟩ (λi σ J _ q=>aX.of q.2.1) ?_ ?_
  ·rintro i e2 σ J hi ⟨Lk,hl',P7,fv,Li,P8,rfl,NR,mf,M3,IG,fU⟩
   obtain⟨m,hm,hv⟩:=aP P7 i e2 hi
   have Sb:=eU m (YT hm)
   have hmt:m.2<ts.length:=by
    rcases VG m Sb with z|z
    ·exact z
    ·rw[hno m (YT hm)]at z;cases z
   have II:=hU m Sb hmt
   have ef:(bE.take (i+1)).foldl (jb (cL p q f b1 b2 b3 b4 ts)) (cm,[])=(cL p q f b1 b2 b3 b4 ts m).foldl (eX m) ((bE.take i).foldl (jb (cL p q f b1 b2 b3 b4 ts)) (cm,[])):=by rw[aM hm,Zt];rfl
   rw[ef]
   have hal:((bE.take i).foldl (jb (cL p q f b1 b2 b3 b4 ts)) (cm,[])).2.length<=((bE.take i).foldl (jb (cL p q f b1 b2 b3 b4 ts)) (cm,[])).1.length:=by
    have q:=tV (led:=cL p q f b1 b2 b3 b4 ts) (bE.take i) (cm,[])
    simp only[List.length_nil,Nat.add_zero]at q
    omega
   generalize (bE.take i).foldl (jb (cL p q f b1 b2 b3 b4 ts)) (cm,[])=acc at mf M3 IG fU hal⊢
   have MY:=hW.mono Lk
   obtain⟨dx,mm,Yq,ys,ex,eM,el,tp⟩:=MY.ok
   obtain⟨bx,sx,rfl,q1,q2⟩:=id hv
   dsimp only[bA]
   refine⟨_,O,_,_,_,O,ex,O,_,O,x,.ref bx,m,ts,p,q,f,b1,b2,b3,b4,O,MY,hv,g,hmt,ht1,λll us J2 M4 Sd ld s2=>?_⟩
   have VL:ll≠lf:=λq=>by rw[q,NR]at M4;cases M4
   have VM:=M3.mono s2
   refine⟨ll,O,⟨_,aX.of Sd⟩,?_⟩
   generalize hes:cL p q f b1 b2 b3 b4 ts m=es at ld II⊢
   refine gI (K:=K) (a:=ll) (xs:=us) (λj σ G=>aF H G/\G ll=some (.lst us)/\kM K G us es/\G l=some (.lst vs)/\tT K G vs bE/\cE K G m (.ref bx)/\∃fv v7,σ=[some (.ref b),some (.ref x),some .non,some (.ref a),some (.ref l),some (.ref bx),some (.ref lf),v7]/\G lf=some (.lst fv)/\tT K G fv ((es.take j).foldl (eX m) acc).2/\cS P w K G a ((es.take j).foldl (eX m) acc).1/\Iz U ((es.take j).foldl (eX m) acc).1/\∀m'∈((es.take j).foldl (eX m) acc).2,m'∈U) ⟨Lk.trans s2,Sd,ld,s2 _ _ hl',P7.keep (λb xs q=>aL s2 q),hv.mono s2,fv,_,rfl,s2 _ _ NR,mf.keep (λb xs q=>aL s2 q),VM,IG,fU⟩ (λj σ G _ q=>aX.of q.2.1) ?_ ?_
   ·rintro j e3 σ G hj ⟨sG,Kn,ldG,NS,NT,Km,fv,P8,rfl,NU,Ll,Lm,Ko,Ln⟩
    obtain⟨⟨c,m'⟩,Kp,t3,w3,rfl,h3,Se⟩:=aP ldG j e3 hj
    have M5:=II _ (YT Kp)
    have ev:(es.take (j+1)).foldl (eX m) acc=eX m ((es.take j).foldl (eX m) acc) (c,m'):=by rw[aM Kp,Zt];rfl
    rw[ev]
    have P9:((es.take j).foldl (eX m) acc).2.length<=((es.take j).foldl (eX m) acc).1.length:=by
     have q:=tU (p:=m) (es.take j) acc
     omega
    generalize (es.take j).foldl (eX m) acc=ac at Ll Lm Ko Ln P9⊢
    have Sf:=G3 (p:=m) (e:=(c,m')) Ko M5
    have hlen:=Ko.len
    obtain⟨kvs,d,cr⟩:=Lm.ok
    have kl:=EK cr
    obtain⟨b3,s3,rfl,z1,z2⟩:=id Se
    have ka:pN (YM P w K) G (bS m') b3:=iD z1 z2
    dsimp only[bA]
    refine⟨_,O,t3,_,_,_,O,O,bU.of h3,O,_,O,a,kvs,bS m',b3,O,O,d,ka,_,O,?_⟩
    rw[tS cr]
    cases hh:cz ac.1 m' with
    |true =>
     have e4:eX m ac (c,m')=ac:=YA hh
     rw[e4]
     exact cU ⟨sG,Kn,ldG,NS,NT,Km,fv,_,rfl,NU,Ll,Lm,Ko,Ln⟩
    |false =>
     have e4:eX m ac (c,m')=(ac.1++[(m',some (m,c))],ac.2++[m']):=Yz (by rw[hh];decide)
     rw[e4]at Sf⊢
     refine kC ?_
     refine⟨_,O,_,O,t3,_,_,_,O,O,bU.of h3,O,(by show 2<=sizeLine;decide),λt4 VN=>?_⟩
     have s4:=au (o:=HO.tup [.ref bx,.str (sg c)]) VN
     have g4:=aj (H:=G) (a:=t4) (o:=HO.tup [.ref bx,.str (sg c)])
     generalize upd G t4 (.tup [.ref bx,.str (sg c)])=G4 at s4 g4⊢
     have d4:=d.mono s4
     have VO:=cr.keep λb xs q=>aL s4 q
     have Sh:=Se.mono s4
     have VP:oi K (some (m,c)) G4 (.ref t4):=⟨t4,.ref bx,rfl,bU.of g4,Km.mono s4⟩
     have c5:=cS.put d4 VO Sh hh VP
     have VQ:kvs.length<sizeLine:=YO (show kvs.length<=100000 by omega) (by decide)
     refine⟨_,O,_,O,t3,_,_,_,O,O,bU.of (s4 _ _ h3),O,a,kvs,bS m',b3,O,O,d4,pN.mono s4 ka,VQ,?_⟩
     have tq:=tG (F:=K) d4.ob (o:=dN (ZM P w) (bG P w) a (putN kvs (bS m') b3 (.ref t4)))
     have t1:∀b' xs,G4 b'=some (.tup xs)->(upd G4 a (dN (ZM P w) (bG P w) a (putN kvs (bS m') b3 (.ref t4)))) b'=some (.tup xs):=λb' xs e=>(az (jg e d4.ob (λq=>nomatch q))).trans e
     have tl:∀b' xs,G4 b'=some (.lst xs)->(upd G4 a (dN (ZM P w) (bG P w) a (putN kvs (bS m') b3 (.ref t4)))) b'=some (.lst xs):=λb' xs e=>(az (jg e d4.ob (λq=>nomatch q))).trans e
     have s5:aF H (upd G4 a (dN (ZM P w) (bG P w) a (putN kvs (bS m') b3 (.ref t4)))):=aK ha (sG.trans s4)
     have Si:=tl _ _ (s4 _ _ Kn)
     have l5:=tl _ _ (s4 _ _ NS)
     have Hz:=tl _ _ (s4 _ _ NU)
     have Sj:=(ldG.mono s4).keep t1 tq
     have NP:=(NT.keep λb xs q=>aL s4 q).keep tq
     have Qa:=(Ll.keep λb xs q=>aL s4 q).keep tq
     have Sk:=(Km.mono s4).keep tq
     have Sl:=Sh.keep tq
     have Sm:=t1 _ _ (s4 _ _ h3)
     generalize upd G4 a (dN (ZM P w) (bG P w) a (putN kvs (bS m') b3 (.ref t4)))=G5 at c5 s5 Si l5 Hz Sj NP Qa Sk Sl Sm⊢
     have VR:=Qa.length
     refine⟨_,O,.inl ⟨O,_,aX.of Hz⟩,_,O,t3,_,_,_,O,O,bU.of Sm,O,lf,_,_,O,O,Hz,?_,?_⟩
     ·exact YO (show fv.length<=200000 by rw[VR];omega) (by decide)
     refine⟨aK VJ s5,(az VL).trans Si,Sj.but Hz,(az (ZI VI)).trans l5,NP.keep (λb xs q=>jD Hz q),Sk.but Hz,fv++[.ref b3],_,O,aj,dG (Qa.keep λb xs q=>jD Hz q) (.cons (Sl.but Hz) .nil),c5.but Hz,Sf,λm1 hm1=>?_⟩
     rcases Y3.mp hm1 with z|z
     ·exact Ln m1 z
     ·rw[YF.mp z];exact M5
   ·rintro σ G ⟨sG,Kn,ldG,NS,NT,Km,fv,P8,rfl,NU,Ll,Lm,Ko,Ln⟩
    rw[ld.length,YR (YB _)]at Ll Lm Ko Ln
    exact⟨sG,NS,NT,fv,_,_,O,NU,Ll,Lm,Ko,Ln⟩
  ·rintro σ J ⟨Lk,hl',P7,fv,Li,P8,rfl,NR,mf,M3,IG,fU⟩
   rw[em.length,YR (YB _)]at mf M3 IG fU
   exact⟨_,O,lf,fv,_,_,_,O,hf,Lk,NR,mf,M3,IG,fU⟩
def A0(P:Program)(w:World)(K:W.Frag):Sp:=λvs H Q _=>∃(a:Addr)(v:V)(cm:Cm)(m:aV)(x:Option (aV×Nat))(xs:List Nat),vs=[.ref a,v]/\cS P w K H a cm/\cE K H m v/\tW cm m=some x/\oj cm x xs/\xs.length<=100000/\∀H',aF H H'->Q (.str (Txt.join ("":Str) (xs.map sg).reverse)) H'
theorem A1:bD P w K mg base fT 1 (ay 34) (aO 34) ["came","place"] (A0 P w K):=by
 refine T.wB.ok jI (λvs H Q E h=>?_) (λcdv A outer s H vs Q E hr h=>?_)
 ·obtain⟨a,v,cm,m,x,xs,rfl,_⟩:=h;rfl
 ·have hu:=bh hr
  have iz:=hr.aQ
  obtain⟨a,v,cm,m,x,xs,rfl,hC,hm,hx,hp,VS,k⟩:=h
  have lq:=hr.units
  obtain⟨b,s,rfl,hb,hs⟩:=hm
  refine⟨_,(ah (d7 2 jI.nd (dS ai))
   (ah (d7 3 jI.nd (yU (YM P w K) (bG P w) rfl rfl rfl (hn2 lq) (pv 0) (pv 1) (λ_ _=>rfl)))
   (ah (yF Zh (eH wO (pv 3) cM)
   (ah (cN (dw K rfl Y9 Zb Zc bL (pv 2) (af (nG K (pv 3) ao) ai)))
   (ak (d7 3 jI.nd (yU (YM P w K) (bG P w) rfl rfl rfl (hn2 lq) (pv 0) (nG K (pv 3) ao) (λ_ _=>rfl))))))
   (ak (aA (yX K rfl rfl rfl T.zL av (af (pv 2) ai))))))),?_⟩
  refine⟨(by decide),λl hl=>⟨_,O,_,O,?_⟩⟩
  have s1:=au (o:=HO.lst []) hl
  have hl1:=aj (H:=H) (a:=l) (o:=HO.lst [])
  generalize upd H l (.lst [])=H1 at s1 hl1⊢
  obtain⟨kvs,d,cr⟩:=(hC.mono s1).ok
  obtain⟨v,hv,lv⟩:=tX cr hx
  refine⟨a,kvs,bS m,b,v,O,O,d,iD (aL s1 hb) (aL s1 hs),hv,?_⟩
  dsimp only[bA]
  refine⟨λn σ J=>∃done rest x v,σ=[some (.ref a),some (.ref b),some (.ref l),some v]/\aF H J/\J l=some (.lst ((done.map sg).map V.str))/\oi K x J v/\oj cm x rest/\xs=done++rest/\n=rest.length,⟨_,[],xs,x,v,O,s1,hl1,lv,hp,O,O⟩,?_⟩
  rintro n σ J ⟨done,rest,x,v,rfl,sJ,Lo,lv,hp,hxs,hn⟩
  cases hp with
  |nil =>
   have lv:v=.non:=lv
   subst lv
   rw[Ze]at hxs
   subst hxs
   refine⟨_,O,O,_,O,tK rfl ?_⟩
   refine⟨_,O,_,O,l,xs.map sg,O,aX.of Lo,?_,k J sJ⟩
   rw[BE,YC]
   show xs.length+xs.length*0<=_
   omega
  |@cons m1 c1 x1 r1 VT hp1 =>
   obtain⟨t,w1,rfl,ht,hw⟩:=lv
   refine⟨_,O,O,_,O,EA rfl ?_⟩
   refine⟨λσ J=>∃v,σ=[some (.ref a),some (.ref b),some (.ref l),some v]/\aF H J/\J l=some (.lst (((done++[c1]).map sg).map V.str))/\oi K x1 J v,?_,?_⟩
   ·rintro σ J' ⟨v,rfl,Lk,hl',lv'⟩
    exact⟨_,by rw[hn];exact Nat.lt_succ_self _,_,_,_,_,O,Lk,hl',lv',hp1,by rw[hxs,Y8];rfl,O⟩
   have hdl:done.length<=100000:=by rw[hxs,YE]at VS;omega
   refine⟨_,O,.inl ⟨O,_,aX.of Lo⟩,_,O,t,_,_,_,O,O,ht,O,l,_,_,O,O,Lo,?_,?_⟩
   ·exact YO (show((done.map sg).map V.str).length<=100000 by rw[YC,YC];exact hdl) (by decide)
   have MX:=jD (o:=HO.lst ((done.map sg).map V.str++[.str (sg c1)])) Lo ht
   obtain⟨kvs,d,cr⟩:=((hC.mono sJ).but (o:=HO.lst ((done.map sg).map V.str++[.str (sg c1)])) Lo).ok
   obtain⟨v,hv,lv⟩:=tX cr VT
   obtain⟨b1,s1,rfl,q1,q2⟩:=hw.keep (λb xs q=>jD (o:=HO.lst ((done.map sg).map V.str++[.str (sg c1)])) Lo q)
   refine⟨_,O,_,O,t,_,_,_,O,O,MX,O,a,kvs,bS m1,b1,v,O,O,d,iD q1 q2,hv,?_⟩
   exact⟨v,O,aK hl sJ,by rw[YW,YW];exact aj,lv⟩
def A2:Sp:=λvs H Q _=>False
theorem A3:bD P w K mg base fT 1 (ay 35) (aO 35) ["tokens","count"] A2:=by
 refine T.CH.ok AI (λvs H Q E h=>?_) (λcdv A outer s H vs Q E hr h=>?_)
 ·exact h.elim
 ·have hu:=bh hr
  have iz:=hr.aQ
  exact h.elim
def zP(P:Program)(w:World)(K:W.Frag)(C CT CM CW:Addr):Sp:=λvs H Q _=>∃(x dx a:Addr)(xs:List V)(t:List (List Str))(U:List aV)(ys:List Nat)(m:aV)(p q f:Str)(b1 b2 b3 b4:Bool),vs=[.ref x,.ref a]/\H x=some (.ins C dx (yu p q f b1 b2 b3 b4))/\Gd p q f/\H a=some (.lst xs)/\Paired (aU H) xs t/\TabOk t/\RT p q f b1 b2 b3 b4 (aR t) U/\fj (cL p q f b1 b2 b3 b4 (aR t)) m0 ys m/\BD (aR t) m=true/\ys.length<=100000/\∀cs m' H',fj (cL p q f b1 b2 b3 b4 (aR t)) m0 cs m'->BD (aR t) m'=true->(∀ys m,fj (cL p q f b1 b2 b3 b4 (aR t)) m0 ys m->BD (aR t) m=true->cs.length<=ys.length)->aF H H'->Q (.str (Txt.join ("":Str) (cs.map sg))) H'
theorem zQ:bD P w K mg base fT 12 (ay 36) (aO 36) ["dialect","table"] (zP P w K (ay 45) (ay 46) (ay 47) (ay 48)):=by
 have o5:=@nC P w K mg base ay aO dJ T
 have Lp:=@A3 P w K mg base ay aO dJ T
 have FD:=@CQ P w K mg base ay aO dJ T
 have CS:=@A1 P w K mg base ay aO dJ T
 have iO:=@oW P w K mg base ay aO dJ T
 refine T.uA.ok iK (λvs H Q E h=>?_) (λcdv A outer s H vs Q E hr h=>?_)
 ·obtain⟨x,dx,a,xs,t,U,ys,m,p,q,f,b1,b2,b3,b4,rfl,_⟩:=h;rfl
 ·have hu:=bh hr
  have iz:=hr.aQ
  obtain⟨x,dx,a,xs,t,U,ys,m,p,q,f,b1,b2,b3,b4,rfl,hx,g,ha,pr,tok,uo,hw,hg,hyl,k⟩:=h
  have lq:=hr.units
  refine⟨_,(ah (d7 2 iK.nd (jS iO hr T.kW T.iM.kp T.kU (af (pv 1) ai)))
   (ah (d7 3 iK.nd (Bo (k:=7) FD (hr.mono (by decide)) rfl T.Fj T.zI.kp T.qN.choose_spec.2 T.qN.choose_spec.1 gK (af (aH (af (ju rfl T.k9) (af ao ai))) (af (nM (k:=10) T.Fq o5 (hr.mono (by decide)) rfl T.Fp T.oH .nil gK (af (pv 0) (af (pv 2) ai))) ai))))
   (ah (d7 4 iK.nd (nG K (pv 3) ao))
   (ah (aN (eH sR (nG K (pv 3) ao) cM) (ah fS
   (ak fS)) aC)
   (ak (aA (jS CS hr T.CG T.wB.kp T.CF (af (pv 4) (af (nG K (pv 3) ao) ai))))))))),?_⟩
  refine⟨_,O,a,xs,t,O,ha,pr,tok,λl ts H1 Lg hl1 rt s1=>?_⟩
  dsimp only[bA]
  refine⟨(by show 2<=sizeLine;decide),λt2 MX=>?_⟩
  have s2:=au (o:=HO.tup [.ref (ay 53),.int 0]) MX
  have h2:=aj (H:=H1) (a:=t2) (o:=HO.tup [.ref (ay 53),.int 0])
  generalize upd H1 t2 (HO.tup [.ref (ay 53),.int 0])=H2 at s2 h2⊢
  have s12:=s1.trans s2
  refine⟨_,O,_,O,λz dz hz NV ne=>⟨z,dz,x,dx,l,ts,aR t,p,q,f,b1,b2,b3,b4,O,aj,kI hz NV (s12 _ _ hx),g,kI hz NV (s2 _ _ hl1),eN (s2.trans (vW hz NV)) rt,λH3 hW kp=>⟨O,?_⟩⟩⟩
  have s3:=pV hz NV kp
  have VU:=s12.trans s3
  have hm0:cE K H3 m0 (.ref t2):=⟨t2,(ay 53),rfl,bU.of (s3 _ _ h2),.inr T.lg⟩
  refine⟨z,.ref t2,U,aR t,p,q,f,b1,b2,b3,b4,O,hW,g,hm0,ER,uo.len,uo.one,uo.shut,uo.good,λtf rv r a2 cm H4 _ _ htf Sn Kp tZ s4=>?_⟩
  have out:=G9 tZ
  dsimp only[bA]
  have VV:=VU.trans s4
  refine⟨_,O,tf,_,_,_,O,O,bU.of htf,O,?_⟩
  dsimp only[bA]
  cases r with
  |none =>
   have q:=(out.2 ys m hw).2
   rw[hg]at q
   cases q
  |some m1 =>
   obtain⟨VW,n,⟨x1,So,v1,l1,w1,e1⟩,hmin⟩:=out
   obtain⟨VX,s1',rfl,q1,q2⟩:=(show cE K H4 m1 rv from Sn)
   refine⟨_,O,tf,_,_,_,O,O,bU.of htf,O,O,_,O,tK rfl ?_⟩
   refine⟨_,O,_,O,tf,_,_,_,O,O,bU.of htf,O,a2,.ref VX,cm,m1,x1,So,O,Kp,Sn,v1,l1,?_,λH5 s5=>?_⟩
   ·have:=hmin ys m hw hg
    omega
   rw[←List.map_reverse]
   refine k So.reverse m1 H5 w1 VW (λys m a b=>?_) (VV.trans s5)
   rw[List.length_reverse,e1]
   exact hmin ys m a b
def rR(K:W.Frag):Sp:=λvs H Q _=>∃(a:Addr)(ns:List Int)(i:Int),vs=[.ref a,.int i]/\aX K H a (ns.map V.int)/\0<=i/\∀r:Int,Q (.int r) H
theorem rS:bD P w K mg base fT 1 (ay 37) (aO 37) ["_law_script","_law_k"] (rR K):=by
 refine T.ie.ok qY (λvs H Q E h=>?_) (λcdv A outer s H vs Q E hr h=>?_)
 ·obtain⟨a,ns,i,rfl,_⟩:=h;rfl
 ·have hu:=bh hr
  have iz:=hr.aQ
  obtain⟨a,ns,i,rfl,hS,hi,k⟩:=h
  refine⟨_,(ah (aN (eH yH (pv 1) (kq (bu K rfl) T.cD (af (pv 0) ai))) (ak (aA (qK K (pv 0) (pv 1)))) aC)
   (ak (aA ao))),?_⟩
  refine⟨_,O,_,O,a,_,O,.inl hS,_,_,O,O,_,O,?_⟩
  refine bY (λhc=>?_) (λ_=>?_)
  ·have hlt:=Zg hc
   obtain⟨v,ev,hv⟩:=w6 hi hlt
   obtain⟨r,_,rfl⟩:=Zx.mp hv
   exact⟨_,O,_,O,a,_,_,_,O,O,hS,ev,k r⟩
  ·exact k 0
def mO:Sp:=λvs H Q _=>∃a b:Int,vs=[.int a,.int b]/\0<=a/\a<4294967296/\0<=b/\b<65536/\∀r:Int,0<=r->r<49979687->Q (.int r) H
theorem vh:bD P w K mg base fT 1 (ay 38) (aO 38) ["_law_number","_law_salt"] mO:=by
 refine T.oN.ok jc (λvs H Q E h=>?_) (λcdv A outer s H vs Q E hr h=>?_)
 ·obtain⟨a,b,rfl,_⟩:=h;rfl
 ·have hu:=bh hr
  have iz:=hr.aQ
  obtain⟨a,b,rfl,ha,ha',hb,hb',k⟩:=h
  refine⟨_,(ah (d7 2 jc.nd (aE bM (aE bX (aE gJ (pv 0) (aE bX ao (aE gJ ao (pv 1)))) (aE gJ ao (pv 1))) ao))
   (ah (d7 3 jc.nd (aE bM (aE bX (aE gJ (pv 2) (pv 2)) (pv 1)) ao))
   (ak (aA (aE bM (aE bX (aE gJ (pv 3) (pv 3)) (pv 2)) ao))))),?_⟩
  refine⟨_,O,_,O,_,_,O,O,.inl ⟨by decide,by decide⟩,_,_,O,O,_,_,O,O,.inl ⟨by omega,by omega⟩,_,O,_,_,O,O,.inl ⟨by decide,by decide⟩,_,_,O,O,_,_,O,O,(by show(0:Int)<15485863;decide),?_⟩
  have h1:=ZY (a*(1299709+210*b)+7919*b) (show(15485863:Int)≠0 by decide)
  have h2:=Int.emod_lt_of_pos (a*(1299709+210*b)+7919*b) (show(0:Int)<15485863 by decide)
  refine⟨_,O,_,O,_,_,O,O,.inl ⟨by omega,by omega⟩,_,O,_,_,O,O,_,_,O,O,(by show(0:Int)<32452843;decide),?_⟩
  refine⟨_,O,_,O,_,_,O,O,.inl ⟨?_,?_⟩,_,O,_,_,O,O,_,_,O,O,(by show(0:Int)<49979687;decide),?_⟩
  ·exact Int.lt_of_lt_of_le (by decide) (ZY _ (by decide))
  ·exact Int.lt_trans (Int.emod_lt_of_pos _ (by decide)) (by decide)
  ·exact k _ (ZY _ (by decide)) (Int.emod_lt_of_pos _ (by decide))
def vj:Sp:=λvs H Q _=>∃(c m:Int),vs=[.int c,.int m]/\0<=m/\m<=1000/\∀(l:Addr)(ns:List Int)(H':Hp),ns.length=m.toNat->(∀n∈ns,0<=n)->H l=none->H' l=some (.lst (ns.map V.int))->aF H H'->Q (.ref l) H'
theorem vm:bD P w K mg base fT 2 (ay 39) (aO 39) ["_law_cell","_law_many"] vj:=by
 have xT:=@vh P w K mg base ay aO dJ T
 refine T.oO.ok cY (λvs H Q E h=>?_) (λcdv A outer s H vs Q E hr h=>?_)
 ·obtain⟨c,m,rfl,_⟩:=h;rfl
 ·have hu:=bh hr
  have iz:=hr.aQ
  obtain⟨c,m,rfl,hm,hm',k⟩:=h
  refine⟨_,(ah (aN (PW.pt (gu (eH bB (aE bM (pv 0) ao) ao) (fZ (eH yH (pv 0) (aE gJ ao (aE DC ao ao)))))) (ah (d7 2 cY.nd (aE bM (pv 0) ao))
   (ak (aA (eZ rfl (show bq ["_law_cell","_law_many","_law_number","_law_found","_law_k"] (aq gC) ["_law_k","_law_number"] 1 [2] _ from Dj) (fD rfl T.ig (af (pv 1) ai)) (λ_ _ _ _=>(m6 0 (show(["_law_k","_law_number"]:List Str).Nodup by decide +kernel))) (λ_ _ _ _=>dM) (λ_ _ _ _=>(jS xT hr T.xB T.oN.kp T.xA (af (pv 1) (af (aE bX ao (aE gJ ao (pv 0))) ai)))))))) aC)
   (ah (d7 3 cY.nd (dS ai))
   (ah (d7 2 cY.nd (aE Ab (aE jr (pv 0) ao) (aE DC ao ao)))
   (ah (dR Zh rfl (fD rfl T.ig (af (pv 1) ai)) (m6 4 cY.nd)
   (ah (cN (dw K rfl Y9 Zb Zc bL (pv 3) (af (aE bM (pv 2) ao) ai)))
   (ak (d7 2 cY.nd (aE jr (pv 2) ao)))))
   (ak (aA (pv 3))))))),?_⟩
  refine⟨_,O,_,_,O,O,(by show(0:Int)<2;decide),O,_,O,?_⟩
  have M6:∀{D:Addr}{v:Option V},H D=none->sX (Ih 0 m.toNat) (bA 0) Jp (DL mO [] E0 (DK (Gn 1) (DK (FW (Gv λi j=>.int (i+j)) (tC (.int 71)) (FW (rI Gx λi j=>.int (i*j)) (tC (.int 2)) (Gn 0))) Jd))) Q D [none,some (.int (c % 1000000007))] H:=by
   intro D v hD
   refine m5 (λi ys τ H2=>(∃v,τ=[v,some (.int (c % 1000000007))])/\aF H H2/\H2 D=some (.lst ys)/\∃ns:List Int,ys=ns.map V.int/\ns.length=i/\∀n∈ns,0<=n) ⟨⟨_,rfl⟩,au hD,aj,[],rfl,rfl,λ_ z=>nomatch z⟩ (λi ys τ H2 _ p=>p.2.2.1) ?_ ?_
   ·rintro i ys τ H2 hi ⟨⟨v,rfl⟩,s2,hl,ns,rfl,hn,hp⟩
    refine pU ?_
    refine⟨_,O,_,O,_,_,O,O,.inl ⟨by decide,by decide⟩,_,_,O,O,_,_,O,ZY _ (by decide),Int.lt_trans (Int.emod_lt_of_pos _ (by decide)) (by decide),by omega,by omega,λr hr0 _=>?_⟩
    refine⟨hl,?_,⟨_,O⟩,aK hD s2,aj,ns++[r],by rw[YW];rfl,by rw[YE,hn];rfl,λn hn'=>?_⟩
    ·rw[YC,hn]
     exact YZ (show i<1000 by omega) (by decide)
    ·rcases Y3.mp hn' with z|z
     ·exact hp n z
     ·rw[YF.mp z];exact hr0
   ·rintro ys τ H2 ⟨⟨v,rfl⟩,s2,hl,ns,rfl,hn,hp⟩
    exact k D ns H2 hn hp hD hl s2
  refine bY (λ_=>?_) (λ_=>?_)
  ·refine kC ?_
   refine⟨_,O,_,_,O,O,(by show(0:Int)<1000000007;decide),?_⟩
   exact⟨_,rfl,m,rfl,by omega,by omega,λD hD=>M6 (v:=none) hD⟩
  ·refine⟨_,O,_,_,O,O,⟨by decide,by decide,by decide⟩,_,_,O,O,.inl ⟨by decide,by decide⟩,_,_,O,O,_,O,?_⟩
   refine bY (λ_=>?_) (λ_=>?_)
   ·refine⟨_,O,_,_,O,O,(by show(0:Int)<1000000007;decide),?_⟩
    exact⟨_,rfl,m,rfl,by omega,by omega,λD hD=>M6 (v:=none) hD⟩
   ·refine⟨by decide,λl hl=>?_⟩
    refine⟨_,O,_,_,O,O,⟨by decide,by decide⟩,_,_,O,O,⟨by decide,by decide,by decide⟩,_,_,O,O,?_⟩
    refine⟨_,O,m,O,by omega,by omega,?_⟩
    refine lJ (λi σ H2=>aF H H2/\∃(x:Int)(v:Option V)(ns:List Int),σ=[some (.int c),some (.int m),some (.int x),some (.ref l),v]/\H2 l=some (.lst (ns.map V.int))/\ns.length=i/\∀n∈ns,0<=n) ⟨au hl,_,_,[],rfl,aj,rfl,λ_ z=>nomatch z⟩ ?_ ?_
    ·rintro i σ H2 hi ⟨s2,x,v,ns,rfl,hq,hn,hp⟩
     refine⟨_,O,.inl ⟨O,_,aX.of hq⟩,_,O,_,_,O,O,(by show(0:Int)<4096;decide),l,_,_,O,O,hq,?_,?_⟩
     ·rw[YC,hn]
      exact YZ (show i<1000 by omega) (by decide)
     ·refine⟨_,O,_,_,O,O,⟨by decide,by decide⟩,?_⟩
      refine⟨aK hl s2,_,_,ns++[x % 4096],O,?_,by rw[YE,hn];rfl,λn hn'=>?_⟩
      ·rw[aj,YW];rfl
      ·rcases Y3.mp hn' with z|z
       ·exact hp n z
       ·rw[YF.mp z];exact ZY _ (by decide)
    ·rintro σ H2 ⟨s2,x,v,ns,rfl,hq,hn,hp⟩
     exact⟨_,O,k l ns H2 hn hp hl hq s2⟩
def uM(K:W.Frag):Sp:=λvs H Q _=>∃(a:Addr)(xs:List V)(t:List (List Str)),vs=[.ref a]/\H a=some (.lst xs)/\Paired (aU H) xs t/\TabOk t/\∀(l:Addr)(ys:List V) H',H l=none->H' l=some (.lst ys)->Paired (bW K H') ys (aR t)->aF H H'->Q (.ref l) H'
theorem uN:bD P w K mg base fT 1 (ay 40) (aO 40) ["_law_table_here"] (uM K):=by
 refine T.je.ok dH (λvs H Q E h=>?_) (λcdv A outer s H vs Q E hr h=>?_)
 ·obtain⟨a,xs,t,rfl,_⟩:=h;rfl
 ·have hu:=bh hr
  have iz:=hr.aQ
  obtain⟨a,xs,t,rfl,ha,tr,g,k⟩:=h
  have hlx:=tr.length
  refine⟨_,(ah (d7 1 dH.nd (dS ai))
   (ah (dR Zh rfl (cg K rfl (pv 0)) (m6 2 dH.nd)
   (ah (dR Zh rfl (fD rfl T.ig (af (kq (bu K rfl) T.cD (af (pv 2) ai)) ai)) (m6 3 dH.nd)
   (ah (aN (eH sQ (pv 3) ao) (ak (cN (dw K rfl Y9 Zb Zc bL (pv 1) (af (aH (af av (af av ai))) ai)))) aC)
   (ak (dR Zh rfl (mZ (qK K (pv 2) (pv 3))) (m6 4 dH.nd)
   (ak (cN (dw K rfl Y9 Zb Zc bL (pv 1) (af (aH (af av (af (pv 4) ai))) ai))))))))
   (ak (cN (dw K rfl Y9 Zb Zc bL (pv 1) (af (aH (af av (af av ai))) ai))))))
   (ak (aA (pv 1))))),?_⟩
  refine⟨by decide,λl hl=>?_⟩
  have s0:=au (o:=HO.lst []) hl
  refine⟨_,O,a,O,⟨_,aX.of (s0 _ _ ha)⟩,?_⟩
  refine gI (K:=K) (a:=a) (xs:=xs) (λi σ H2=>(∃v1 v2 v3,σ=[some (.ref a),some (.ref l),v1,v2,v3])/\aF H H2/\∃ys,H2 l=some (.lst ys)/\Paired (bW K H2) ys (aR (t.take i))) ⟨⟨_,_,_,rfl⟩,s0,[],aj,.nil⟩ (λi σ H2 _ q=>aX.of (q.2.1 _ _ ha)) ?_ ?_
  ·rintro i e σ H2 hi ⟨⟨v1,v2,v3,rfl⟩,s2,ys,hy,hp⟩
   obtain⟨r,hr,b,rfl,hb⟩:=aP tr i e hi
   have AW:=YT hr
   have b1:=nZ g i
   have hs:=YU (lQ AW) g.sum
   have Yr:=(g.rows r AW).hi
   have FA:∀n,n<=r.length->(gE r n).length<=420:=λn hn=>by
    have:=nY r n hn
    have h2:(lens (r.take n)).sum<=(lens r).sum:=by
     unfold lens;rw[List.map_take];exact iC _ _
    omega
   have hbm:=s2 _ _ hb
   refine⟨_,O,b,_,O,.inl (aX.of hbm),_,O,by rw[YC];omega,by rw[YC];omega,?_⟩
   rw[YC]
   refine lJ (λj σ H3=>(∃v2 v3,σ=[some (.ref a),some (.ref l),some (.ref b),v2,v3])/\aF H H3/\∃ws,H3 l=some (.lst ws)/\Paired (bW K H3) ws (aR (t.take i)++gE r j)) ⟨⟨_,_,rfl⟩,s2,ys,hy,by show Paired _ _ (_++[]);rw[Ze];exact hp⟩ ?_ ?_
   ·rintro j σ H3 hj ⟨⟨v2,v3,rfl⟩,s3,ws,hw,zY⟩
    have VY:j<r.length:=by omega
    have bj:=FA j (by omega)
    have hwl:=zY.length
    rw[YE]at hwl
    dsimp only[bA]
    refine lO (t:=Dw _ _ _) (λσ' H'=>(∃v3,σ'=[some (.ref a),some (.ref l),some (.ref b),some (.int (0+(j:Int))),v3])/\aF H H'/\∃ws,H' l=some (.lst ws)/\Paired (bW K H') ws (aR (t.take i)++(gE r j++(if j=0 then [] else [di])))) ?_ (λgo=>?_)
    rotate_left
    ·refine⟨_,O,_,_,O,O,_,O,bY (λh=>?_) (λh=>?_)⟩
     ·have h0:(0:Int)<0+j:=Zg h
      refine⟨_,O,.inl ⟨O,_,aX.of hw⟩,(by show 2<=sizeLine;decide),λu Gg=>?_⟩
      have su:=au (o:=HO.tup [.str ("part":Str),.str ("":Str)]) Gg
      have M7:=su _ _ hw
      refine⟨l,ws,_,O,O,M7,YO (show ws.length<=3000 by omega) (by decide),go _ _ ⟨⟨_,O⟩,aK hl (s3.trans su),_,aj,?_⟩⟩
      rw[Yz (by omega),←Y8]
      exact aB (λa b h=>bW.but M7 h) (bP (aB (λa b h=>bW.mono su h) zY) ⟨u,rfl,bU.of aj⟩)
     ·have h0:j=0:=by
       have:¬(0:Int)<0+j:=λq=>h (YJ q)
       omega
      refine go _ _ ⟨⟨_,rfl⟩,s3,ws,hw,?_⟩
      rw[YA h0,Ze]
      exact zY
    clear hw zY s3 hwl
    rintro σ' H4 ⟨⟨v4,rfl⟩,s4,ws,hw,zY⟩
    have hwl:=zY.length
    have Ph:ws.length<=2100:=by
     rw[hwl,YE,YE]
     split
     ·simp;omega
     ·show _+(_+1)<=2100;omega
    obtain⟨z,hz⟩:∃z,r[j]?=some z:=⟨r[j],by simp[VY]⟩
    have Le:z.length<=400:=YU (kK (YT hz)) hs
    have VZ:=s4 _ _ hb
    refine⟨_,O,_,O,b,_,_,.str z,O,O,aX.of VZ,?_,z,O,?_⟩
    ·rw[Int.zero_add];exact iB (by rw[Zk,hz];rfl)
    refine wY (λn σ H5=>(∃v4,σ=[some (.ref a),some (.ref l),some (.ref b),some (.int (0+(j:Int))),v4])/\aF H H5/\∃zs,H5 l=some (.lst zs)/\Paired (bW K H5) zs ((aR (t.take i)++(gE r j++(if j=0 then [] else [di])))++((z.cps.toList.take n).map λc=>(Str.ofString "put",sg c)))) ⟨⟨_,rfl⟩,s4,ws,hw,by rw[List.take_zero];show Paired _ _ (_++[]);rw[Ze];exact zY⟩ ?_ ?_
    ·rintro n d σ H5 hn ⟨⟨v5,rfl⟩,s5,zs,h5,CN⟩
     have hnl:n<z.cps.toList.length:=(YG.mp hn).1
     rw[YX]at hnl
     have hnl:n<z.length:=hnl
     have Fy:=CN.length
     rw[YE,←hwl,YC,Zn]at Fy
     refine⟨_,O,.inl ⟨O,_,aX.of h5⟩,_,O,(by show 2<=sizeLine;decide),λu Gg=>?_⟩
     have s6:=au (o:=HO.tup [.str ("put":Str),.str (sg d)]) Gg
     have Sq:=s6 _ _ h5
     refine⟨l,zs,_,O,O,Sq,YO (show zs.length<=3000 by omega) (by decide),⟨_,O⟩,aK hl (s5.trans s6),_,aj,?_⟩
     rw[aM hn,YW,←Y8]
     exact aB (λa b h=>bW.but Sq h) (bP (aB (λa b h=>bW.mono s6 h) CN) ⟨u,rfl,bU.of aj⟩)
    ·rintro σ H5 ⟨⟨v5,rfl⟩,s5,zs,h5,CN⟩
     rw[YR (YB _)]at CN
     refine⟨⟨_,_,O⟩,s5,zs,h5,?_⟩
     rw[eL hz]
     rw[Y8,Y8]at CN
     exact CN
   ·rintro σ H3 ⟨⟨v2,v3,rfl⟩,s3,ws,hw,zY⟩
    have bj:=FA r.length (YB _)
    have hwl:=zY.length
    have zY:Paired (bW K H3) ws (aR (t.take i)++gE r r.length):=zY
    rw[YE]at hwl
    refine⟨_,O,.inl ⟨O,_,aX.of hw⟩,(by show 2<=sizeLine;decide),λu Gg=>?_⟩
    have su:=au (o:=HO.tup [.str ("end":Str),.str ("":Str)]) Gg
    have M7:=su _ _ hw
    have V0:ws.length<=2100:=by
     have:ws.length=(aR (t.take i)).length+(gE r r.length).length:=zY.length.trans (YE ..)
     omega
    refine⟨l,ws,_,O,O,M7,YO V0 (by decide),⟨_,_,_,O⟩,aK hl (s3.trans su),_,aj,?_⟩
    rw[aM hr,iG]
    unfold gg
    rw[←Y8]
    exact aB (λa b h=>bW.but M7 h) (bP (aB (λa b h=>bW.mono su h) zY) ⟨u,rfl,bU.of aj⟩)
  ·rintro σ H2 ⟨⟨v1,v2,v3,rfl⟩,s2,ys,hy,hp⟩
   rw[hlx,YR (YB _)]at hp
   exact⟨_,O,k l ys H2 hl hy hp s2⟩
def xU(K:W.Frag):Sp:=λvs H Q _=>∃(a b:Nat)(z:Str)(t:List (List Str)),vs=[.str (sg a),.str (sg b),.str z]/\a≠b/\b≠10/\Ge (sg a) (sg b) ("":Str) true true false false (aR t) z.cps.toList/\(∀r∈t,1<=r.length)/\z.length<=20000/\∀l es H',H' l=some (.lst es)->Paired (aU H') es t->aF H H'->Q (.ref l) H'
theorem xV:bD P w K mg base fT 1 (ay 41) (aO 41) ["_law_part","_law_quote","_law_text"] (xU K):=by
 refine T.qM.ok aS (λvs H Q E h=>?_) (λcdv A outer s H vs Q E hr h=>?_)
 ·obtain⟨a,b,z,t,rfl,_⟩:=h;rfl
 ·have hu:=bh hr
  have iz:=hr.aQ
  obtain⟨a,b,z,t,rfl,hab,kj,hrd,lo,hz,k⟩:=h
  have lq:=hr.units
  have MH:100000<=sizeLine:=by decide
  have V1:=kJ
  refine⟨_,(ah (d7 3 aS.nd (dS ai))
   (ah (d7 4 aS.nd (dS ai))
   (ah (d7 5 aS.nd av)
   (ah (d7 6 aS.nd av)
   (ah (dR Zh rfl (mZ (pv 2)) (m6 7 aS.nd)
   (ak (aN (PW.pt (gH (eH bB (pv 6) av) (eY (eH bB (pv 7) (pv 1))))) (ak (d7 6 aS.nd av)) (ak (aN (PW.pt (gu (eH bB (pv 6) av) (fZ (PW.pt (gH (eH bB (pv 6) av) (eY (eH bB (pv 7) (pv 1)))))))) (ah (d7 5 aS.nd (aE bQ (pv 5) (pv 7)))
   (ak (d7 6 aS.nd av))) (ak (aN (eH bB (pv 7) av) (ah (cN (dw K rfl Y9 Zb Zc bL (pv 3) (af (aE Jk (pv 4) (dS (af (pv 5) ai))) ai)))
   (ah (d7 4 aS.nd (dS ai))
   (ah (d7 5 aS.nd av)
   (ak (d7 6 aS.nd av))))) (ak (aN (eH bB (pv 7) (pv 0)) (ah (cN (dw K rfl Y9 Zb Zc bL (pv 4) (af (pv 5) ai)))
   (ah (d7 5 aS.nd av)
   (ak (d7 6 aS.nd av)))) (ak (aN (PW.pt (gH (eH bB (pv 7) (pv 1)) (eY (c7 (Ar K rfl) (pv 6) (aH (af av (af av ai))) rfl)))) (ak (d7 6 aS.nd av)) (ak (aN (PW.pt (gu (eH bB (pv 7) (pv 1)) (fZ (eH bB (pv 6) av)))) (ak (aA cM)) (ah (d7 5 aS.nd (aE bQ (pv 5) (pv 7)))
   (ak (d7 6 aS.nd av))))))))))))))))
   (ah (aN (eH DF (pv 6) av) (ak (aA cM)) aC)
   (ak (aA (pv 3))))))))),?_⟩
  refine⟨(by decide),λL hL=>?_⟩
  have s1:=au (o:=HO.lst []) hL
  have qL:=aj (H:=H) (a:=L) (o:=HO.lst [])
  generalize upd H L (HO.lst [])=H1 at s1 qL⊢
  dsimp only[bA]
  refine⟨(by decide),λr0 hr0=>?_⟩
  have s2:=au (o:=HO.lst []) hr0
  have q0:=aj (H:=H1) (a:=r0) (o:=HO.lst [])
  have Ss:=s2 _ _ qL
  have n0:r0≠L:=λq=>by rw[q,qL]at hr0;cases hr0
  have Qc:H r0=none:=s1.free hr0
  generalize upd H1 r0 (HO.lst [])=H2 at s2 q0 Ss⊢
  have s12:=s1.trans s2
  clear s1 s2 qL hr0
  dsimp only[bA]
  refine⟨_,O,_,O,?_⟩
  refine wY (λi σ J=>∃(rr:Addr)(cell:Str)(s:Qs)(es:List V)(row:List Str)(v:Option V),σ=[some (.str (sg a)),some (.str (sg b)),some (.str z),some (.ref L),some (.ref rr),some (.str cell),some (.str s.nm),v]/\wo H a b z t L i rr cell s es row J) ⟨r0,_,.row,[],[],none,rfl,⟨s12,⟨[],aR t,[],rfl,hrd,rfl,.nil⟩,Qc,n0,Ss,q0,(λq=>nomatch q),(λq=>nomatch q),by rw[V1];exact YB _,YB _,YB _⟩⟩ ?_ ?_
  ·rintro i c σ J hi ⟨rr,cell,s,es,row,v,rfl,hC⟩
   have hil:=(YG.mp hi).1
   have hil:i<z.length:=by rw[YX]at hil;exact hil
   have l1:=hC.l1
   have l2:=hC.l2
   have l3:=hC.l3
   have hrm:(row.map V.str).length=row.length:=YC ..
   dsimp only[bA]
   have sq:∀{d},decide (V.str (sg c)=V.str (sg d))=true->c=d:=λh=>Zg (E9.symm.trans h)
   have sn:∀{d},decide (V.str (sg c)=V.str (sg d))=false->¬c=d:=λh=>of_decide_eq_false (E9.symm.trans h)
   cases s with
   |within =>
    rw[show Qs.nm .within=("within":Str) from rfl]
    refine⟨_,O,O,_,O,K9 rfl (⟨_,O,_,O,O,_,O,yY (λhc=>?_) (λhc=>?_)⟩)⟩
    ·exact⟨rr,cell,.dZ,es,row,_,O,hC.skip hab kj hi (YA (sq hc))⟩
    ·refine⟨_,O,O,_,O,K9 rfl (kC ?_)⟩
     exact⟨_,rfl,_,rfl,_,_,rfl,rfl,(by rw[fH];omega),rr,cell++sg c,.within,es,row,_,rfl,hC.put hab kj hi (Yz (sn hc))⟩
   |dZ =>
    rw[show Qs.nm .dZ=("doubt":Str) from rfl]
    refine⟨_,O,O,_,O,jw (by decide +kernel) (cU (⟨_,O,O,_,O,jw (by decide +kernel) (⟨_,O,O,_,O,K9 rfl (⟨_,O,_,O,O,_,O,yY (λhc=>?_) (λhc=>?_)⟩)⟩)⟩))⟩
    ·exact⟨_,rfl,_,rfl,_,_,rfl,rfl,(by rw[fH];omega),rr,cell++sg c,.within,es,row,_,rfl,hC.put hab kj hi (YA (sq hc))⟩
    have n2:=sn hc
    refine⟨_,O,O,_,O,yY (λhc=>?_) (λhc=>?_)⟩
    ·rw[iI]at hc
     have h1:=sq hc
     have hm:eo a b .dZ c=some (.fin,.row):=by show(if c=b then _ else if c=10 then some (Kq.fin,Qs.row) else _)=_;rw[Yz n2,YA h1]
     refine⟨_,O,.inl ⟨O,_,aX.of hC.hL⟩,_,O,_,O,(by show(1:Nat)<=sizeLine;decide),λq hq=>?_⟩
     have hD:=hC.mono (au (o:=HO.lst [.str cell]) hq)
     have hq2:=aj (H:=J) (a:=q) (o:=HO.lst [.str cell])
     generalize upd J q (HO.lst [.str cell])=Jq at hD hq2⊢
     refine⟨rr,q,row.map V.str,[.str cell],O,O,hD.hrr,hq2,(by show(row.map V.str).length+1<=sizeLine;omega),λu hu=>?_⟩
     refine⟨L,es,_,O,O,au hu _ _ hD.hL,YO (show es.length<=20000 by omega) (by decide),?_⟩
     refine⟨(by decide),λr2 hr2=>?_⟩
     exact⟨r2,_,.row,_,[],_,O,hD.fin hab kj hL hi hm hu rfl hr2⟩
    rw[iI]at hc
    have n1:=sn hc
    refine⟨_,O,_,O,O,_,O,yY (λhc=>?_) (λhc=>?_)⟩
    ·have h1:=sq hc
     have hm:eo a b .dZ c=some (.part,.cell):=by show(if c=b then _ else if c=10 then _ else if c=a then some (Kq.part,Qs.cell) else _)=_;rw[Yz n2,Yz n1,YA h1]
     exact⟨_,O,.inl ⟨O,_,aX.of hC.hrr⟩,_,O,rr,_,_,O,O,hC.hrr,YO (show(row.map V.str).length<=20000 by omega) (by decide),rr,_,.cell,es,row++[cell],_,O,hC.part hab kj hi hm⟩
    have n3:=sn hc
    exfalso
    exact hC.no hab kj hi (by show(if c=b then _ else if c=10 then _ else if c=a then _ else none)=_;rw[Yz n2,Yz n1,Yz n3])
   |plain =>
    rw[show Qs.nm .plain=("plain":Str) from rfl]
    refine⟨_,O,O,_,O,jw (by decide +kernel) (cU (⟨_,O,O,_,O,jw (by decide +kernel) (⟨_,O,O,_,O,jw (by decide +kernel) (cU ?_)⟩)⟩))⟩
    refine⟨_,O,O,_,O,yY (λhc=>?_) (λhc=>?_)⟩
    ·rw[iI]at hc
     have h1:=sq hc
     have hm:eo a b .plain c=some (.fin,.row):=by show(if c=10 then some (Kq.fin,Qs.row) else _)=_;rw[YA h1]
     refine⟨_,O,.inl ⟨O,_,aX.of hC.hL⟩,_,O,_,O,(by show(1:Nat)<=sizeLine;decide),λq hq=>?_⟩
     have hD:=hC.mono (au (o:=HO.lst [.str cell]) hq)
     have hq2:=aj (H:=J) (a:=q) (o:=HO.lst [.str cell])
     generalize upd J q (HO.lst [.str cell])=Jq at hD hq2⊢
     refine⟨rr,q,row.map V.str,[.str cell],O,O,hD.hrr,hq2,(by show(row.map V.str).length+1<=sizeLine;omega),λu hu=>?_⟩
     refine⟨L,es,_,O,O,au hu _ _ hD.hL,YO (show es.length<=20000 by omega) (by decide),?_⟩
     refine⟨(by decide),λr2 hr2=>?_⟩
     exact⟨r2,_,.row,_,[],_,O,hD.fin hab kj hL hi hm hu rfl hr2⟩
    rw[iI]at hc
    have n1:=sn hc
    refine⟨_,O,_,O,O,_,O,yY (λhc=>?_) (λhc=>?_)⟩
    ·have h1:=sq hc
     have hm:eo a b .plain c=some (.part,.cell):=by show(if c=10 then _ else if c=a then some (Kq.part,Qs.cell) else _)=_;rw[Yz n1,YA h1]
     exact⟨_,O,.inl ⟨O,_,aX.of hC.hrr⟩,_,O,rr,_,_,O,O,hC.hrr,YO (show(row.map V.str).length<=20000 by omega) (by decide),rr,_,.cell,es,row++[cell],_,O,hC.part hab kj hi hm⟩
    have n3:=sn hc
    refine⟨_,O,_,O,O,_,O,yY (λhc=>?_) (λhc=>?_)⟩
    ·exfalso
     exact hC.no hab kj hi (by show(if c=10 then _ else if c=a then _ else if c=b then none else _)=_;rw[Yz n1,Yz n3,YA (sq hc)])
    ·have n2:=sn hc
     refine cU (⟨_,rfl,_,rfl,rfl,_,rfl,tK hc (⟨_,rfl,rfl,_,rfl,jw (by decide +kernel) ?_⟩)⟩)
     show Dv _ _ _ _ _
     exact⟨_,O,_,O,_,_,O,O,(by rw[fH];omega),rr,cell++sg c,.plain,es,row,_,O,hC.put hab kj hi (by show(if c=10 then _ else if c=a then _ else if c=b then _ else some (Kq.put,Qs.plain))=_;rw[Yz n1,Yz n3,Yz n2])⟩
   |row =>
    rw[show Qs.nm .row=("row":Str) from rfl]
    refine⟨_,O,O,_,O,jw (by decide +kernel) (cU (⟨_,O,O,_,O,jw (by decide +kernel) (⟨_,O,O,_,O,jw (by decide +kernel) (cU ?_)⟩)⟩))⟩
    refine⟨_,O,O,_,O,yY (λhc=>?_) (λhc=>?_)⟩
    ·rw[iI]at hc
     have h1:=sq hc
     have hm:eo a b .row c=some (.fin,.row):=by show(if c=10 then some (Kq.fin,Qs.row) else _)=_;rw[YA h1]
     refine⟨_,O,.inl ⟨O,_,aX.of hC.hL⟩,_,O,_,O,(by show(1:Nat)<=sizeLine;decide),λq hq=>?_⟩
     have hD:=hC.mono (au (o:=HO.lst [.str cell]) hq)
     have hq2:=aj (H:=J) (a:=q) (o:=HO.lst [.str cell])
     generalize upd J q (HO.lst [.str cell])=Jq at hD hq2⊢
     refine⟨rr,q,row.map V.str,[.str cell],O,O,hD.hrr,hq2,(by show(row.map V.str).length+1<=sizeLine;omega),λu hu=>?_⟩
     refine⟨L,es,_,O,O,au hu _ _ hD.hL,YO (show es.length<=20000 by omega) (by decide),?_⟩
     refine⟨(by decide),λr2 hr2=>?_⟩
     exact⟨r2,_,.row,_,[],_,O,hD.fin hab kj hL hi hm hu rfl hr2⟩
    rw[iI]at hc
    have n1:=sn hc
    refine⟨_,O,_,O,O,_,O,yY (λhc=>?_) (λhc=>?_)⟩
    ·have h1:=sq hc
     have hm:eo a b .row c=some (.part,.cell):=by show(if c=10 then _ else if c=b then _ else if c=a then some (Kq.part,Qs.cell) else _)=_;rw[Yz n1,Yz (λe=>hab (h1.symm.trans e)),YA h1]
     exact⟨_,O,.inl ⟨O,_,aX.of hC.hrr⟩,_,O,rr,_,_,O,O,hC.hrr,YO (show(row.map V.str).length<=20000 by omega) (by decide),rr,_,.cell,es,row++[cell],_,O,hC.part hab kj hi hm⟩
    have n3:=sn hc
    refine⟨_,O,_,O,O,_,O,yY (λhc=>?_) (λhc=>?_)⟩
    ·have h1:=sq hc
     refine⟨_,O,(by decide),λq hq=>⟨_,_,O,.inr (bU.of aj),O,O,_,O,kC (?_)⟩⟩
     exact⟨rr,cell,.within,es,row,_,rfl,(hC.mono (au hq)).skip hab kj hi (by show(if c=10 then _ else if c=b then some (Kq.skip,Qs.within) else _)=_;rw[Yz n1,YA h1])⟩
    ·have n2:=sn hc
     refine cU (⟨_,rfl,_,rfl,rfl,_,rfl,tK hc (⟨_,rfl,rfl,_,rfl,jw (by decide +kernel) ?_⟩)⟩)
     show Dv _ _ _ _ _
     exact⟨_,O,_,O,_,_,O,O,(by rw[fH];omega),rr,cell++sg c,.plain,es,row,_,O,hC.put hab kj hi (by show(if c=10 then _ else if c=b then _ else if c=a then _ else some (Kq.put,Qs.plain))=_;rw[Yz n1,Yz n2,Yz n3])⟩
   |cell =>
    rw[show Qs.nm .cell=("cell":Str) from rfl]
    refine⟨_,O,O,_,O,jw (by decide +kernel) (cU (⟨_,O,O,_,O,jw (by decide +kernel) (⟨_,O,O,_,O,jw (by decide +kernel) (cU ?_)⟩)⟩))⟩
    refine⟨_,O,O,_,O,yY (λhc=>?_) (λhc=>?_)⟩
    ·rw[iI]at hc
     have h1:=sq hc
     have hm:eo a b .cell c=some (.fin,.row):=by show(if c=10 then some (Kq.fin,Qs.row) else _)=_;rw[YA h1]
     refine⟨_,O,.inl ⟨O,_,aX.of hC.hL⟩,_,O,_,O,(by show(1:Nat)<=sizeLine;decide),λq hq=>?_⟩
     have hD:=hC.mono (au (o:=HO.lst [.str cell]) hq)
     have hq2:=aj (H:=J) (a:=q) (o:=HO.lst [.str cell])
     generalize upd J q (HO.lst [.str cell])=Jq at hD hq2⊢
     refine⟨rr,q,row.map V.str,[.str cell],O,O,hD.hrr,hq2,(by show(row.map V.str).length+1<=sizeLine;omega),λu hu=>?_⟩
     refine⟨L,es,_,O,O,au hu _ _ hD.hL,YO (show es.length<=20000 by omega) (by decide),?_⟩
     refine⟨(by decide),λr2 hr2=>?_⟩
     exact⟨r2,_,.row,_,[],_,O,hD.fin hab kj hL hi hm hu rfl hr2⟩
    rw[iI]at hc
    have n1:=sn hc
    refine⟨_,O,_,O,O,_,O,yY (λhc=>?_) (λhc=>?_)⟩
    ·have h1:=sq hc
     have hm:eo a b .cell c=some (.part,.cell):=by show(if c=10 then _ else if c=b then _ else if c=a then some (Kq.part,Qs.cell) else _)=_;rw[Yz n1,Yz (λe=>hab (h1.symm.trans e)),YA h1]
     exact⟨_,O,.inl ⟨O,_,aX.of hC.hrr⟩,_,O,rr,_,_,O,O,hC.hrr,YO (show(row.map V.str).length<=20000 by omega) (by decide),rr,_,.cell,es,row++[cell],_,O,hC.part hab kj hi hm⟩
    have n3:=sn hc
    refine⟨_,O,_,O,O,_,O,yY (λhc=>?_) (λhc=>?_)⟩
    ·have h1:=sq hc
     refine⟨_,O,(by decide),λq hq=>⟨_,_,O,.inr (bU.of aj),O,O,_,O,kC (?_)⟩⟩
     exact⟨rr,cell,.within,es,row,_,rfl,(hC.mono (au hq)).skip hab kj hi (by show(if c=10 then _ else if c=b then some (Kq.skip,Qs.within) else _)=_;rw[Yz n1,YA h1])⟩
    ·have n2:=sn hc
     refine cU (⟨_,rfl,_,rfl,rfl,_,rfl,tK hc (⟨_,rfl,rfl,_,rfl,jw (by decide +kernel) ?_⟩)⟩)
     show Dv _ _ _ _ _
     exact⟨_,O,_,O,_,_,O,O,(by rw[fH];omega),rr,cell++sg c,.plain,es,row,_,O,hC.put hab kj hi (by show(if c=10 then _ else if c=b then _ else if c=a then _ else some (Kq.put,Qs.plain))=_;rw[Yz n1,Yz n2,Yz n3])⟩
  ·rintro σ J ⟨rr,cell,s,es,row,v,rfl,hC⟩
   obtain⟨done,rest,rows,eT,hR,hg,pe⟩:=hC.tok
   rw[List.drop_eq_nil_of_le (YB _)]at hR
   have e1:s.nm=("row":Str):=congrArg (λx:Str×Str×Option Str=>x.1) hR.1
   have e2:rest=[]:=hR.2.symm
   rw[e2,Ze]at eT
   rw[←eT,show JG=⟨[],[],("":Str)⟩ from rfl,zv t [] lo]at hg
   have e3:rows=t:=(congrArg Lb.rows hg).symm
   rw[e1]
   rw[e3]at pe
   refine⟨_,O,O,_,O,OZ rfl (⟨_,O,k L es J hC.hL pe hC.same⟩)⟩
def vn(K:W.Frag):Sp:=λvs H Q _=>∃(a b:Nat)(l:Addr)(xs:List V)(t:List (List Str)),vs=[.str (sg a),.str (sg b),.ref l]/\H l=some (.lst xs)/\Paired (aU H) xs t/\TabOk t/\∀H',aF H H'->Q (.int ((t.map (sN a b)).sum:Nat)) H'
theorem vo:bD P w K mg base fT 1 (ay 42) (aO 42) ["_law_part","_law_quote","_law_table_here"] (vn K):=by
 refine T.oQ.ok cA (λvs H Q E h=>?_) (λcdv A outer s H vs Q E hr h=>?_)
 ·obtain⟨a,b,l,xs,t,rfl,_⟩:=h;rfl
 ·have hu:=bh hr
  have iz:=hr.aQ
  obtain⟨a,b,l,xs,t,rfl,hl,pr,tok,k⟩:=h
  have MH:100000<=sizeLine:=by decide
  have pl:=pr.length
  refine⟨_,(ah (d7 3 cA.nd ao)
   (ah (dR Zh rfl (cg K rfl (pv 2)) (m6 4 cA.nd)
   (ah (d7 3 cA.nd (aE bX (pv 3) (kq (bu K rfl) T.cD (af (pv 4) ai))))
   (ak (dR Zh rfl (cg K rfl (pv 4)) (m6 5 cA.nd)
   (ah (d7 3 cA.nd (aE bX (pv 3) (kq bI T.cD (af (pv 5) ai))))
   (ak (aN (PW.pt (gu (c7 cH (pv 0) (pv 5) rfl) (gu (c7 cH (pv 1) (pv 5) rfl) (fZ (c7 cH av (pv 5) rfl))))) (ak (d7 3 cA.nd (aE bX (aE bX (pv 3) ao) (dw K rfl PySem.F.plainAttrs_str PySem.F.slot_str_count PySem.F.type_str_count yM (pv 5) (af (pv 1) ai))))) aC)))))))
   (ak (aA (pv 3))))),?_⟩
  refine⟨_,O,l,O,⟨_,aX.of hl⟩,?_⟩
  refine gI (K:=K) (a:=l) (xs:=xs) (λi σ J=>J=H/\∃(v4 v5:Option V),σ=[some (.str (sg a)),some (.str (sg b)),some (.ref l),some (.int (((t.take i).map (sN a b)).sum:Nat)),v4,v5]) ⟨rfl,none,none,rfl⟩ (λi σ J _ p=>by rw[p.1];exact aX.of hl) ?_ ?_
  ·rintro i e σ J hi ⟨rfl,v4,v5,rfl⟩
   obtain⟨r,hr',q,rfl,hq⟩:=aP pr i e hi
   have AW:=YT hr'
   have hrl:=(tok.rows r AW).hi
   have hml:(r.map V.str).length=r.length:=YC ..
   have hs:=YU (lQ AW) tok.sum
   dsimp only[bA]
   refine⟨_,O,_,O,_,_,O,.inl (aX.of hq),_,_,O,O,_,O,_,O,⟨_,aX.of hq⟩,?_⟩
   have e0:((((t.take i).map (sN a b)).sum:Nat):Int)+(((r.map V.str).length:Nat):Int)=((((t.take i).map (sN a b)).sum+r.length+((r.take 0).map (jE a b)).sum:Nat):Int):=by
    rw[hml,List.take_zero];show _=((_+_+0:Nat):Int);omega
   refine gI (K:=K) (a:=q) (xs:=r.map V.str) (λj σ J2=>J2=J/\∃(v5:Option V),σ=[some (.str (sg a)),some (.str (sg b)),some (.ref l),some (.int (((t.take i).map (sN a b)).sum+r.length+((r.take j).map (jE a b)).sum:Nat)),some (.ref q),v5]) ⟨rfl,v5,by rw[←e0];rfl⟩ (λi σ J _ p=>by rw[p.1];exact aX.of hq) ?_ ?_
   ·rintro j e2 σ J2 hj ⟨rfl,Li,rfl⟩
    rw[Zk]at hj
    cases hz:r[j]? with
    |none=>rw[hz]at hj;cases hj
    |some z =>
    rw[hz]at hj
    cases hj
    have Le:=YU (kK (YT hz)) hs
    have eS:((r.take (j+1)).map (jE a b)).sum=((r.take j).map (jE a b)).sum+jE a b z:=by rw[aM hz,YW,Zv];show _+(jE a b z+0)=_;omega
    rw[eS,←Nat.add_assoc]
    have Gi:=JN (a:=a) (b:=b) (z:=z)
    have ec:jE a b z=z.length+(if IC a b z=true then 2+E5 b z else 0):=rfl
    have V2:PyProof.Rows.cnt b z.cps.toList=(E5 b z:Int):=ID b _
    generalize ((t.take i).map (sN a b)).sum+r.length+((r.take j).map (jE a b)).sum=S
    have e1:IC a b z=true->(S:Int)+(z.length:Int)+2+PyProof.Rows.cnt b z.cps.toList=((S+jE a b z:Nat):Int):=λh=>by rw[YA h]at ec;rw[V2,ec];omega
    have e2:IC a b z=false->(S:Int)+(z.length:Int)=((S+jE a b z:Nat):Int):=λh=>by rw[Yz (by rw[h];decide)]at ec;rw[ec];omega
    dsimp only[bA]
    refine⟨_,O,_,O,_,O,(by omega),_,_,O,O,_,O,_,O,_,_,O,O,_,O,?_⟩
    refine yY (λh1=>?_) (λh1=>?_)
    ·have h1:gG a z=true:=h1
     rw[h1,Bool.true_or]at Gi
     refine kC (⟨_,rfl,_,_,rfl,rfl,_,rfl,rfl,_,rfl,_,_,rfl,rfl,_,_,rfl,rfl,rfl,?_⟩)
     exact⟨some (.str z),by rw[←e1 Gi];rfl⟩
    have h1:gG a z=false:=h1
    rw[h1,Bool.false_or]at Gi
    refine⟨_,O,_,O,_,_,O,O,_,O,?_⟩
    refine yY (λh2=>?_) (λh2=>?_)
    ·have h2:gG b z=true:=h2
     rw[h2,Bool.true_or]at Gi
     refine kC (⟨_,rfl,_,_,rfl,rfl,_,rfl,rfl,_,rfl,_,_,rfl,rfl,_,_,rfl,rfl,rfl,?_⟩)
     exact⟨some (.str z),by rw[←e1 Gi];rfl⟩
    have h2:gG b z=false:=h2
    rw[h2,Bool.false_or]at Gi
    refine⟨_,O,_,_,O,O,_,O,?_⟩
    rw[iI]
    refine yY (λh3=>?_) (λh3=>?_)
    ·have h3:gG 10 z=true:=h3
     rw[h3]at Gi
     refine⟨_,O,_,_,O,O,_,O,O,_,O,_,_,O,O,_,_,O,O,O,?_⟩
     exact⟨some (.str z),by rw[←e1 Gi];rfl⟩
    have h3:gG 10 z=false:=h3
    rw[h3]at Gi
    exact⟨O,some (.str z),by rw[←e2 Gi];rfl⟩
   ·rintro σ J2 ⟨rfl,Li,rfl⟩
    refine⟨O,some (.ref q),Li,?_⟩
    rw[hml,YR (YB _),aM hr',YW,Zv,show([r].map (sN a b)).sum=sN a b r from Nat.add_zero _,BL,←Nat.add_assoc]
  ·rintro σ J ⟨rfl,v4,v5,rfl⟩
   rw[pl,YR (YB _)]
   exact⟨_,O,k _ (aF.refl _)⟩
def vp(K:W.Frag):Sp:=λvs H Q _=>∃(S:Str)(a:Addr)(ns:List Int),vs=[.str S,.ref a]/\H a=some (.lst (ns.map V.int))/\ns.length=12/\(∀n∈ns,0<=n)/\cy S/\1<=S.length/\S.length<=20/\∀(l:Addr)(xs:List V)(t:List (List Str))(H':Hp),aF H H'->H l=none->H' l=some (.lst xs)->Paired (aU H') xs t->TabOk t->Q (.ref l) H'
theorem vq:bD P w K mg base fT 1 (ay 43) (aO 43) ["_law_signs_here","_law_xs"] (vp K):=by
 refine T.oR.ok aW (λvs H Q E h=>?_) (λcdv A outer s H vs Q E hr h=>?_)
 ·obtain⟨S,a,ns,rfl,_⟩:=h;rfl
 ·have hu:=bh hr
  have iz:=hr.aQ
  obtain⟨S,a,ns,rfl,ha,hn,hp,Qd,Ys,Yt,k⟩:=h
  have hn:ns.length=12:=hn
  obtain⟨n0,n1,n2,n3,n4,n5,n6,n7,n8,n9,Dm,IJ,rfl⟩:∃n0 n1 n2 n3 n4 n5 n6 n7 n8 n9 Dm IJ,ns=[n0,n1,n2,n3,n4,n5,n6,n7,n8,n9,Dm,IJ]:=by
   match ns,hn with
   |[n0,n1,n2,n3,n4,n5,n6,n7,n8,n9,Dm,IJ],_=>exact⟨_,_,_,_,_,_,_,_,_,_,_,_,rfl⟩
  refine⟨_,(ah (d7 2 aW.nd (qK K (dS (af (aE bX ao (aE bM (qK K (pv 1) ao) ao)) (af (aE bX ao (aE bM (aE jr (qK K (pv 1) ao) ao) ao)) ai))) (O4 vH T.Fw (af (Gb bB (aE bM (qK K (pv 1) ao) ao) ao) ai))))
   (ah (d7 3 aW.nd (dS ai))
   (ah (dR Zh rfl (fD rfl T.ig (af (pv 2) ai)) (m6 4 aW.nd)
   (ah (d7 5 aW.nd (aE bX ao (aE bM (aE bX (qK K (pv 1) ao) (aE gJ ao (pv 4))) ao)))
   (ah (aN (PW.pt (gH (eH bB (pv 4) (aE bM (qK K (pv 1) ao) (pv 2))) (eY (eH bB (aE bM (qK K (pv 1) ao) ao) ao)))) (ak (d7 5 aW.nd (aE bX ao (aE bM (aE jr (qK K (pv 1) ao) ao) ao)))) aC)
   (ah (d7 6 aW.nd (dS ai))
   (ah (dR Zh rfl (fD rfl T.ig (af (pv 5) ai)) (m6 7 aW.nd)
   (ah (d7 8 aW.nd (sU sV (pv 0) (aE bM (aE bX (aE bX (qK K (pv 1) ao) (aE gJ ao (pv 4))) (pv 7)) (kq bI T.cD (af (pv 0) ai))) (λ_ _=>rfl)))
   (ak (cN (dw K rfl Y9 Zb Zc bL (pv 6) (af (aE By (pv 8) (aE bM (aE bX (aE bX (qK K (pv 1) ao) (aE gJ (pv 4) (pv 4))) (pv 7)) ao)) ai))))))
   (ak (cN (dw K rfl Y9 Zb Zc bL (pv 3) (af (pv 6) ai)))))))))
   (ah (d7 9 aW.nd (aE bM (aE jr (qK K (pv 1) ao) ao) (pv 2)))
   (ah (d7 10 aW.nd (aE bM (aE jr (qK K (pv 1) ao) ao) (kq (bu K rfl) T.cD (af (qK K (pv 3) (pv 9)) ai))))
   (ah (DA av (Dy (qK K (pv 3) (pv 9)) (pv 10) set_list))
   (ah (d7 11 aW.nd (kq (pM K rfl rfl) T.AR (af (eZ rfl (show bq ["_law_signs_here","_law_xs","_law_many","_law_table_here","_law_k","_law_size","_law_row","_law_j","_law_sign","_law_at","_law_place","_law_rest","_law_two"] (aq gD) ["_law_row"] 1 [] _ from Dj) (cg K rfl (pv 3)) (λ_ _ _ _=>(m6 0 Ga)) (λ_ _ _ _=>dM) (λ_ _ _ _=>(kq bI T.cD (af (dw K rfl PySem.F.plainAttrs_str PySem.F.slot_str_join PySem.F.type_str_join (D5 K rfl) av (af (pv 0) ai)) ai)))) ai)))
   (ah (d7 12 aW.nd (aE bQ (sU sV (pv 0) (aE bM (qK K (pv 1) ao) (kq bI T.cD (af (pv 0) ai))) (λ_ _=>rfl)) (sU sV (pv 0) (aE bM (qK K (pv 1) ao) (kq bI T.cD (af (pv 0) ai))) (λ_ _=>rfl))))
   (ah (DA (DO Jx (aE By (pv 12) ao) GB (GC (aE Ab (aE Ab ao (pv 11)) (aE bM (aE jr (qK K (pv 1) ao) ao) ao)))) (Dy (qK K (pv 3) (pv 9)) (pv 10) set_list))
   (ak (aA (pv 3)))))))))))),?_⟩
  have p2:0<=n2:=hp n2 (by simp)
  have p4:0<=n4:=hp n4 (by simp)
  have p5:0<=n5:=hp n5 (by simp)
  have p7:0<=n7:=hp n7 (by simp)
  have p8:0<=n8:=hp n8 (by simp)
  have p9:0<=n9:=hp n9 (by simp)
  have MH:100000<=sizeLine:=by decide
  have Kr:S.cps.toList.length=S.length:=by rw[YX];rfl
  refine⟨_,O,_,_,_,_,O,O,aX.of ha,O,_,_,O,O,(by omega),_,_,O,O,_,O,_,_,_,_,O,O,aX.of ha,O,_,_,O,O,⟨(by omega),(by omega)⟩,_,_,O,O,(by omega),_,_,O,O,(by show(2:Nat)<=sizeLine;decide),λl1 hl1=>⟨_,O,_,_,_,_,O,O,aX.of (au hl1 _ _ ha),O,_,_,O,O,(by omega),O,.inr (⟨_,O,?_⟩)⟩⟩
  (have s1:=au (o:=HO.lst [(λi j=>V.int (i+j)) 1 (n2 % 3),(λi j=>V.int (i+j)) 58 (n2 / 4 % 3)]) hl1;have q1:=aj (H:=H) (a:=l1) (o:=HO.lst [(λi j=>V.int (i+j)) 1 (n2 % 3),(λi j=>V.int (i+j)) 58 (n2 / 4 % 3)]);generalize upd H l1 (HO.lst [(λi j=>V.int (i+j)) 1 (n2 % 3),(λi j=>V.int (i+j)) 58 (n2 / 4 % 3)])=H1 at s1 q1⊢)
  obtain⟨M,hM,M0,M1⟩:∃M:Int,zV [V.int (1+n2 % 3),V.int (58+n2 / 4 % 3)] (if decide (V.int (n3 % 4)=V.int 1)=true then 1 else 0)=some (.int M)/\1<=M/\M<=60:=by
   have:=fM (a:=n2) (b:=3) (by decide)
   have:=fN (a:=n2) (b:=3) (by decide)
   have:=fM (a:=n2 / 4) (b:=3) (by decide)
   have:=fN (a:=n2 / 4) (b:=3) (by decide)
   by_cases h:V.int (n3 % 4)=V.int 1
   ·rw[YJ h];exact⟨_,rfl,by omega,by omega⟩
   ·rw[YK h];exact⟨_,rfl,by omega,by omega⟩
  refine⟨l1,_,_,_,O,O,aX.of q1,hM,?_⟩
  refine⟨(by decide),λL hL=>⟨_,O,_,O,(by omega),(by omega),?_⟩⟩
  have Su:H L=none:=s1.free hL
  (have s2:=au (o:=HO.lst []) hL;have q2:=aj (H:=H1) (a:=L) (o:=HO.lst []);generalize upd H1 L (HO.lst [])=H2 at s2 q2⊢)
  clear hM
  have s12:=s1.trans s2
  obtain⟨k0,hk0⟩:∃k0:Int,k0=n5 % M:=⟨_,rfl⟩
  refine lJ (λi σ J=>aF H J/\∃(es:List V)(T:List (List Str))(v4 v5 v6 v7 v8:Option V),σ=[some (.str S),some (.ref a),some (.int M),some (.ref L),v4,v5,v6,v7,v8,none,none,none,none]/\J L=some (.lst es)/\Paired (jk (λb=>H b=none/\b≠L) J) es T/\es.Nodup/\(∀r∈T,JO r)/\T.length=i/\cells T<=zA n4 i+(if k0<(i:Int) then 19 else 0)) ⟨s12,[],[],none,none,none,none,none,rfl,q2,.nil,List.nodup_nil,(λ_ z=>nomatch z),rfl,Zd _⟩ ?_ ?_
  ·rintro i σ J hi ⟨sJ,es,T,v4,v5,v6,v7,v8,rfl,M8,Lq,NW,Lr,Sv,hcl⟩
   have hi:i<60:=by omega
   have Ks:=sJ _ _ ha
   have hel:=Lq.length
   dsimp only[bA]
   refine⟨_,O,_,_,_,_,O,O,aX.of Ks,O,_,O,_,_,O,O,.inl ⟨(by omega),(by omega)⟩,_,_,O,O,_,_,O,O,(by omega),_,_,O,O,?_⟩
   have c0:=fM (a:=n4+7*(0+(i:Int))) (b:=4) (by decide)
   have c1:=fN (a:=n4+7*(0+(i:Int))) (b:=4) (by decide)
   dsimp only[bA]
   refine lO (t:=Dw _ _ _) (λσ' G=>aF J G/\∃(C:Int),σ'=[some (.str S),some (.ref a),some (.int M),some (.ref L),some (.int (0+(i:Int))),some (.int C),v6,v7,v8,none,none,none,none]/\1<=C/\C<=20/\C<=1+(n4+7*(0+(i:Int))) % 4+(if k0=(i:Int) then 19 else 0)) ?_ (λgo=>?_)
   rotate_left
   ·refine⟨_,O,_,O,_,_,_,_,O,O,aX.of Ks,O,_,O,_,_,O,O,(by omega),O,_,O,?_⟩
    refine Mr (λhk=>?_) (λhk=>cU (go _ _ ⟨aF.refl _,_,rfl,by omega,by omega,by split<;>omega⟩))
    have hk:0+(i:Int)=n5 % M:=V.int.inj hk
    refine⟨_,O,_,_,_,_,O,O,aX.of Ks,O,_,_,O,O,(by omega),O,_,O,?_⟩
    refine Mr (λhk2=>?_) (λhk2=>go _ _ ⟨aF.refl _,_,rfl,by omega,by omega,by split<;>omega⟩)
    have d0:=fM (a:=n6 / 3) (b:=2) (by decide)
    have d1:=fN (a:=n6 / 3) (b:=2) (by decide)
    refine⟨_,O,_,_,_,_,O,O,aX.of Ks,O,_,_,O,O,⟨(by omega),(by omega)⟩,_,_,O,O,(by omega),_,_,O,O,?_⟩
    exact go _ _ ⟨aF.refl _,_,rfl,by omega,by omega,by rw[YA (by omega)];omega⟩
   rintro σ' J2 ⟨Qe,C,rfl,C0,C1,C2⟩
   have Sw:=Qe _ _ M8
   have V3:=Paired.imp' (λ_ _ q=>jk.mono Qe (λ_ z=>z) q) Lq
   have Sx:=sJ.trans Qe
   refine⟨(by decide),λRw M9=>?_⟩
   have V4:=Paired.imp' (λ_ _ q=>jk.not M9 q) V3
   have Sy:H Rw=none:=Sx.free M9
   have Sz:Rw≠L:=λq=>by rw[q,Sw]at M9;cases M9
   (have s3:=au (o:=HO.lst []) M9;have q3:=aj (H:=J2) (a:=Rw) (o:=HO.lst []);generalize upd J2 Rw (HO.lst [])=J3 at s3 q3⊢)
   have V5:=s3 _ _ Sw
   have V6:=Paired.imp' (λ_ _ q=>jk.mono s3 (λ_ z=>z) q) V4
   have V7:=Sx.trans s3
   dsimp only[bA]
   refine⟨_,O,C,O,by omega,by omega,?_⟩
   refine lJ (λj σ G=>aF H G/\∃(r:List Str)(v7 v8:Option V),σ=[some (.str S),some (.ref a),some (.int M),some (.ref L),some (.int (0+(i:Int))),some (.int C),some (.ref Rw),v7,v8,none,none,none,none]/\G L=some (.lst es)/\G Rw=some (.lst (r.map V.str))/\Paired (jk (λb=>(H b=none/\b≠L)/\b≠Rw) G) es T/\(∀c∈r,cy c/\c.length<=2)/\r.length=j) ⟨V7,[],v7,v8,rfl,V5,q3,V6,(λ_ z=>nomatch z),rfl⟩ ?_ ?_
   ·rintro j σ G hj ⟨sG,r,w7,w8,rfl,Ku,NX,Ls,IK,hrl⟩
    have hj:j<20:=by omega
    have Lu:=sG _ _ ha
    obtain⟨dd,ed,V8⟩:=w6 (xs:=S.cps.toList) (i:=(n7+13*(0+(i:Int))+(0+(j:Int))) % (S.length:Int)) (fM (by omega)) (by rw[Kr];exact fN (by omega))
    have m0:=fM (a:=n8+(0+(i:Int))*(0+(i:Int))+(0+(j:Int))) (b:=3) (by decide)
    have m1:=fN (a:=n8+(0+(i:Int))*(0+(i:Int))+(0+(j:Int))) (b:=3) (by decide)
    dsimp only[bA]
    have ml:((n8+(0+(i:Int))*(0+(i:Int))+(0+(j:Int))) % 3).toNat<=2:=by omega
    have rl:=BB (sg dd) ((n8+(0+(i:Int))*(0+(i:Int))+(0+(j:Int))) % 3).toNat
    refine⟨_,O,_,O,_,_,_,_,O,O,aX.of Lu,O,_,O,_,_,O,O,.inl ⟨(by omega),(by omega)⟩,_,_,O,O,_,O,_,_,O,O,_,O,_,O,(by omega),_,_,O,O,(by omega),_,_,_,O,O,(by omega),ed,_,O,.inl ⟨O,⟨_,aX.of NX⟩⟩,_,O,_,O,_,_,_,_,O,O,aX.of Lu,O,_,O,_,O,_,_,O,O,.inl ⟨(by omega),(by omega)⟩,_,_,O,O,_,O,_,_,O,O,_,_,O,O,(by omega),_,_,O,O,(by omega),(by omega),?_,?_,_,_,_,O,O,NX,?_,(aK Sy sG),?_⟩
    ·show 1*_<=_;omega
    ·show 1<=_;decide
    ·rw[YC];exact YO (show r.length<=100 by omega) (by decide)
    refine⟨r++[lV (sg dd) ((n8+(0+(i:Int))*(0+(i:Int))+(0+(j:Int))) % 3).toNat],_,_,O,(az (ZI Sz)).trans Ku,by rw[YW];exact aj,Paired.imp' (λ_ _ q=>jk.set (λ_ z=>z.2) q) Ls,λc hc=>?_,by rw[YE,hrl];rfl⟩
    rcases Y3.mp hc with q|q
    ·exact IK c q
    ·rw[YF.mp q]
     refine⟨EE λb hb=>by rw[YF.mp (show b∈[dd]from hb)];exact Qd dd V8,?_⟩
     rw[rl];show((n8+(0+(i:Int))*(0+(i:Int))+(0+(j:Int))) % 3).toNat*1<=2;omega
   ·rintro σ G ⟨sG,r,w7,w8,rfl,Ku,NX,Ls,IK,hrl⟩
    refine⟨_,O,.inl ⟨O,_,aX.of Ku⟩,_,O,L,_,_,O,O,Ku,?_,?_⟩
    ·exact YO (show es.length<=100 by omega) (by decide)
    have hnr:V.ref Rw∉es:=λq=>by
     obtain⟨j,hj⟩:=List.getElem?_of_mem q
     obtain⟨_,_,v,ev,⟨_,hv⟩,_⟩:=aP Ls j _ hj
     cases ev
     exact hv rfl
    refine⟨aK Su sG,es++[.ref Rw],T++[r],_,_,_,_,_,O,aj,Paired.imp' (λ_ _ q=>jk.set (λ_ z=>z.2) q) (bP (Paired.imp' (λ_ _ q=>jk.mono (aF.refl _) (λ_ z=>z.1) q) Ls) ⟨Rw,O,⟨Sy,Sz⟩,NX⟩),?_,λr' hr'=>?_,?_,?_⟩
    ·rw[List.nodup_append]
     exact⟨NW,by simp,λx hx y hy e=>hnr (by rw[←YF.mp hy,←e];exact hx)⟩
    ·rcases Y3.mp hr' with q|q
     ·exact Lr r' q
     ·rw[YF.mp q];exact⟨by omega,by omega,IK⟩
    ·rw[YE,List.length_singleton,Sv]
    ·rw[AD,hrl]
     show _<=zA n4 i+(1+(n4+7*(i:Int)) % 4).toNat+_
     rw[Int.zero_add]at C2 c0 c1
     have e1:(((i+1:Nat)):Int)=(i:Int)+1:=by omega
     rw[e1]
     split at C2<;>split at hcl<;>split<;>omega
  rintro σ J ⟨sJ,es,T,v4,v5,v6,v7,v8,rfl,M8,Lq,NW,Lr,Sv,hcl⟩
  have Ks:=sJ _ _ ha
  have hel:=Lq.length
  have Qf:T.length<=60:=by omega
  have tot:total T<=342:=by
   have h1:=wu Lr
   have h2:=Hl (n:=n4) (i:=M.toNat) (by omega)
   split at hcl<;>omega
  clear hcl
  have V9:=fM (a:=n5 / 64) (show 0<M by omega)
  have Wa:=fN (a:=n5 / 64) (show 0<M by omega)
  refine⟨_,O,_,_,_,_,O,O,aX.of Ks,O,_,_,O,O,⟨(by omega),(by omega)⟩,_,O,_,_,O,O,(by omega),?_⟩
  dsimp only[bA]
  generalize n5 / 64 % M=A at V9 Wa⊢
  obtain⟨An,rfl⟩:∃An:Nat,A=(An:Int):=⟨A.toNat,by omega⟩
  obtain⟨x,hx⟩:∃x,es[An]?=some x:=⟨_,YV (by omega)⟩
  have ex:zV es (An:Int)=some x:=iB hx
  obtain⟨r,hr',b,rfl,⟨hb0,SA⟩,hb⟩:=aP Lq An x hx
  have IK:=Lr r (YT hr')
  have hrl:(r.map V.str).length=r.length:=YC ..
  have Yu:=IK.1
  have ho2:=IK.2.1
  have P0:=fM (a:=n9 / 4) (b:=((r.map V.str).length:Int)) (by omega)
  have P1:=fN (a:=n9 / 4) (b:=((r.map V.str).length:Int)) (by omega)
  refine⟨_,O,_,_,_,_,O,O,aX.of Ks,O,_,_,O,O,⟨(by omega),(by omega)⟩,_,O,_,O,L,_,_,_,O,O,aX.of M8,ex,b,_,O,.inl (aX.of hb),_,_,O,O,(by omega),?_⟩
  dsimp only[bA]
  generalize n9 / 4 % ((r.map V.str).length:Int)=P at P0 P1⊢
  obtain⟨p,rfl⟩:∃p:Nat,P=(p:Int):=⟨P.toNat,by omega⟩
  have Na:p<r.length:=by omega
  obtain⟨z0,hz0⟩:∃z0,r[p]?=some z0:=⟨_,YV Na⟩
  have hix:FZ (r.map V.str).length (p:Int)=some p:=by rw[hrl];unfold FZ;rw[YA (by omega)];simp[Na]
  have Qg:∀z:Str,(r.map V.str).set p (.str z)=(r.set p z).map V.str:=λz=>by rw[List.map_set]
  refine⟨_,O,_,O,L,_,_,_,O,O,aX.of M8,ex,_,O,b,_,_,p,O,O,hb,hix,?_⟩
  rw[Qg]
  have Nb:=JP (r':=r.set p ("":Str)) Lq NW hx
  have NY:(upd J b (.lst ((r.set p ("":Str)).map V.str))) L=some (.lst es):=(az (ZI SA)).trans M8
  have SD:(upd J b (.lst ((r.set p ("":Str)).map V.str))) b=some (.lst ((r.set p ("":Str)).map V.str)):=aj
  have SE:aF H (upd J b (.lst ((r.set p ("":Str)).map V.str))):=aK hb0 sJ
  generalize upd J b (.lst ((r.set p ("":Str)).map V.str))=J9 at Nb NY SD SE⊢
  have t9:=pZ (r':=r.set p ("":Str)) hr'
  have l9:=ua (z':=("":Str)) hz0
  rw[kJ]at l9
  have Wb:∀q∈T.set An (r.set p ("":Str)),JO q:=λq hq=>by
   rcases List.mem_or_eq_of_mem_set hq with h|rfl
   ·exact Lr q h
   ·refine⟨by rw[ZA];omega,by rw[ZA];omega,λc hc=>?_⟩
    rcases List.mem_or_eq_of_mem_set hc with h|rfl
    ·exact IK.2.2 c h
    ·exact⟨Ay,by rw[kJ];omega⟩
  have Qh:(T.set An (r.set p ("":Str))).length=T.length:=ZA
  have Nc:(T.set An (r.set p ("":Str)))[An]?=some (r.set p ("":Str)):=by rw[List.getElem?_set_self (by omega)]
  have IL:∀q,(T.set An (r.set p ("":Str))).set An q=T.set An q:=λq=>List.set_set ..
  generalize Yv:T.set An (r.set p ("":Str))=T9 at Nb t9 Wb Qh Nc IL
  have Qi:total T9<=342:=by omega
  have Qj:=Nb.length
  refine⟨_,O,L,O,⟨_,aX.of NY⟩,λD hD=>?_⟩
  refine fG (K:=K) (a:=L) (xs:=es) (λi ys τ G=>(∃v,τ=[v])/\aF J9 G/\G D=some (.lst ys)/\ys=((T9.map λr=>(lens r).sum).take i).map λn:Nat=>V.int n) ⟨⟨_,rfl⟩,au hD,aj,rfl⟩ (λi ys τ G _ p=>⟨aX.of (p.2.1 _ _ NY),p.2.2.1⟩) ?_ ?_
  ·rintro i e ys τ G hi ⟨⟨v,rfl⟩,s2,hl,rfl⟩
   have hil:i<es.length:=(YG.mp hi).1
   obtain⟨r2,hr2,c,rfl,_,hc⟩:=aP Nb i e hi
   have Wc:=s2 _ _ hc
   have hs2:=lQ (YT hr2)
   have hes:=zw r2
   have hcs:(Cp r2).length<=400:=by rw[←hes];show(lens r2).sum<=400;omega
   refine pU ?_
   refine⟨O,_,O,_,c,r2,O,O,aX.of Wc,by rw[kJ];omega,_,O,?_,hl,?_,⟨_,O⟩,aK hD s2,aj,?_⟩
   ·rw[BH];omega
   ·rw[YC,Zn,YC]
    exact YO (show _<=62 by omega) (by decide)
   ·rw[aM (l:=T9.map λr=>(lens r).sum) (c:=(lens r2).sum) (by rw[Zk,hr2];rfl),YW,BH,←hes];rfl
  rintro ys τ G ⟨⟨v,rfl⟩,s9,K5,rfl⟩
  have e:(T9.map λr=>(lens r).sum).take es.length=T9.map λr=>(lens r).sum:=YR (by rw[YC,Qj];exact YB _)
  rw[e]at K5
  have Ku:=s9 _ _ NY
  have Wd:=s9 _ _ SD
  have Ls:=Paired.imp' (λ_ _ q=>jk.mono s9 (λ_ z=>z) q) Nb
  have SG:=SE.trans s9
  have Lu:=SG _ _ ha
  have Yw:(T9.map λr=>(lens r).sum).sum<=342:=Qi
  refine⟨D,_,O,aX.of K5,by omega,?_⟩
  rw[show(T9.map λr=>(lens r).sum).sum=total T9 from rfl]
  dsimp only[bA]
  obtain⟨d1,We,hd1⟩:=w6 (xs:=S.cps.toList) (i:=Dm % (S.length:Int)) (fM (by omega)) (by rw[Kr];exact fN (by omega))
  obtain⟨d2,Wf,hd2⟩:=w6 (xs:=S.cps.toList) (i:=IJ % (S.length:Int)) (fM (by omega)) (by rw[Kr];exact fN (by omega))
  have x0:=fM (a:=n9 / 256) (b:=2) (by decide)
  have x1:=fN (a:=n9 / 256) (b:=2) (by decide)
  refine⟨_,O,_,O,_,_,_,_,O,O,aX.of Lu,O,_,O,_,O,(by omega),_,_,O,O,(by omega),_,_,_,O,O,(by omega),We,_,O,_,O,_,_,_,_,O,O,aX.of Lu,O,_,O,_,O,(by omega),_,_,O,O,(by omega),_,_,_,O,O,(by omega),Wf,_,_,O,O,(by show(1:Nat)+1<=sizeLine;decide),?_⟩
  dsimp only[bA]
  generalize hc2:(⟨#[d1]⟩:Str)++⟨#[d2]⟩=two
  have Kv:two.length=2:=by rw[←hc2];rfl
  have Qk:cy two:=by
   rw[←hc2]
   exact tQ (λc hc=>by rw[YF.mp (show c∈[d1]from hc)];exact Qd d1 hd1) (λc hc=>by rw[YF.mp (show c∈[d2]from hc)];exact Qd d2 hd2)
  have rl:=BB two 200
  have rk:cy (lV two 200):=EE Qk
  have sl:=ED (z:=lV two 200) (n:=400-(total T9:Int)-n9 / 256 % 2) (by omega)
  have sk:cy (Txt.slice (lV two 200) none (some (400-(total T9:Int)-n9 / 256 % 2))):=EF rk
  have Ql:FZ ((r.set p ("":Str)).map V.str).length (p:Int)=some p:=by
   rw[YC,ZA,←hrl];exact hix
  refine⟨_,O,_,_,O,O,(by decide),(by decide),?_,?_,_,O,_,_,O,O,_,O,_,_,_,_,O,O,aX.of Lu,O,_,_,O,O,⟨(by omega),(by omega)⟩,_,_,O,O,(by omega),_,_,O,O,_,O,_,O,?_,_,O,_,O,L,_,_,_,O,O,aX.of Ku,ex,_,O,b,_,_,p,O,O,Wd,Ql,_,O,?_⟩
  ·rw[Kv];decide
  ·rw[Kv];decide
  ·show(lV two 200).length<=sizeLine;rw[rl,Kv];decide
  have sl:((Txt.slice (lV two 200) none (some (400-(total T9:Int)-n9 / 256 % 2))).length:Int)<=400-(total T9:Int)-n9 / 256 % 2:=sl
  show Q (.ref L) (upd G b (.lst (((r.set p ("":Str)).map V.str).set p (.str (Txt.slice (lV two 200) none (some (400-(total T9:Int)-n9 / 256 % 2)))))))
  generalize Txt.slice (lV two 200) none (some (400-(total T9:Int)-n9 / 256 % 2))=z at sl sk⊢
  have e3:((r.set p ("":Str)).map V.str).set p (.str z)=(r.set p z).map V.str:=(List.map_set (f:=V.str) (l:=r.set p ("":Str))).symm.trans (congrArg _ (List.set_set ..))
  rw[e3]
  have SH:=JP (r':=r.set p z) Ls NW hx
  rw[IL]at SH
  have tz:=pZ (r':=r.set p z) hr'
  have lz:=ua (z':=z) hz0
  refine k L es (T.set An (r.set p z)) _ (aK hb0 SG) Su ((az (ZI SA)).trans Ku) (Paired.imp' (λ_ _ ⟨c,e1,_,e2⟩=>⟨c,e1,e2⟩) SH) ⟨by rw[ZA];exact Qf,λq hq=>?_,by omega⟩
  rcases List.mem_or_eq_of_mem_set hq with h|rfl
  ·have:=Lr q h
   exact⟨this.1,this.2.1,λc hc=>(this.2.2 c hc).1⟩
  ·refine⟨by rw[ZA];omega,by rw[ZA];omega,λc hc=>?_⟩
   rcases List.mem_or_eq_of_mem_set hc with h|rfl
   ·exact(IK.2.2 c h).1
   ·exact sk
def xW(K:W.Frag):Sp:=λvs H Q _=>∃(a:Addr)(ns:List Int),vs=[.ref a]/\aX K H a (ns.map V.int)/\ns.length<=63/\∀H',Q (.bl true) H'
theorem Kw:bD P w K mg base fT 13 (ay 44) (aO 44) ["_law_script"] (xW K):=by
 have eG:=@gy P w K mg base ay aO dJ T
 have lC:=@rS P w K mg base ay aO dJ T
 have xX:=@vm P w K mg base ay aO dJ T
 have zR:=@xV P w K mg base ay aO dJ T
 have xY:=@vo P w K mg base ay aO dJ T
 have xZ:=@vq P w K mg base ay aO dJ T
 have mP:=@uN P w K mg base ay aO dJ T
 have A4:=@zQ P w K mg base ay aO dJ T
 have iO:=@oW P w K mg base ay aO dJ T
 refine T.MG.ok jJ (λvs H Q E h=>?_) (λcdv A outer s H vs Q E hr h=>?_)
 ·obtain⟨a,ns,rfl,_⟩:=h;rfl
 ·have hu:=bh hr
  have iz:=hr.aQ
  obtain⟨a,ns,rfl,hS,hlen,k⟩:=h
  have lq:=hr.units
  have MH:100000<=sizeLine:=by decide
  refine⟨_,(ah (d7 1 jJ.nd av)
   (ah (d7 2 jJ.nd (jS xX hr T.xD T.oO.kp T.xC (af (jS lC hr T.k8 T.ie.kp T.k7 (af (pv 0) (af ao ai))) (af ao ai))))
   (ah (d7 3 jJ.nd (sU sV (pv 1) (aE bM (qK K (pv 2) ao) ao) (λ_ _=>rfl)))
   (ah (d7 4 jJ.nd (sU sV (pv 1) (aE bM (aE bX (aE bX (qK K (pv 2) ao) ao) (aE bM (qK K (pv 2) ao) ao)) ao) (λ_ _=>rfl)))
   (ah (d7 5 jJ.nd (jS xZ hr T.xH T.oR.kp T.xG (af (aE bQ (aE bQ (pv 3) (pv 4)) av) (af (pv 2) ai))))
   (ah (Bs (i:=6) rfl jJ.nd rfl rfl (show bq ["_law_script","_law_menu","_law_xs","_law_part","_law_quote","_law_table_here","_law_handed","_law_text","_law_great"] (aq mD) ["_law_row"] 1 [] _ from Dj) (cg K rfl (pv 5)) (λ_ _ _ _=>(m6 0 Ga)) (λ_ _ _ _=>dM) (λ_ _ _ _=>(O4 (uU K rfl) T.xM (af (pv 0) ai))))
   (ah (aN (eH (wZ K rfl lq) (jS iO hr T.kW T.iM.kp T.kU (af (pv 6) ai)) (jS mP hr T.mL T.je.kp T.mK (af (pv 5) ai))) (ak (aA jh)) aC)
   (ah (d7 7 jJ.nd (jS A4 hr T.AO T.uA.kp T.AM (af (nM (k:=3) T.wD eG (hr.mono (by decide)) rfl T.wC T.ic .nil gK (af (pv 3) (af (pv 4) (af av (af jh (af jh (af jh (af jh ai)))))))) (af (pv 6) ai))))
   (ah (aN (PW.pt (gu (dQ (cG (kq (gB K rfl) T.cC (af (pv 7) (af (JD "str" T.AQ) ai))))) (gu (eH (wZ K rfl lq) (pv 6) (pv 5)) (fZ (eH (wZ K rfl lq) (jS zR hr T.zK T.qM.kp T.zJ (af (pv 3) (af (pv 4) (af (pv 7) ai)))) (pv 5)))))) (ak (aA jh)) aC)
   (ah (aN (eH bB (aE bM (jS lC hr T.k8 T.ie.kp T.k7 (af (pv 0) (af ao ai))) ao) ao) (ah (Ew (i:=8) rfl jJ.nd rfl rfl (show gR ["_law_script","_law_menu","_law_xs","_law_part","_law_quote","_law_table_here","_law_handed","_law_text","_law_great"] (aq mD) ["_law_i"] 1 [] _ from O3) (fD rfl T.ig (af ao ai)) (λ_ _ _ _=>(m6 0 Ga)) (λ_ _ _ _=>dM) (λ_ _ _ _=>(eZ rfl (show bq ["_law_i"] _ ["_law_j","_law_i"] 1 [0] _ from⟨rfl,by decide +kernel,by decide +kernel,λy hy hf=>JC ((by decide +kernel:∀y∈_,y.2=PySem.NameKind.free->(List.lookup y.1 _=some PySem.NameKind.cell\/List.lookup y.1 _=some PySem.NameKind.free)) y hy hf),by decide +kernel,rfl,rfl,by decide +kernel⟩) (fD rfl T.ig (af ao ai)) (λ_ _ _ _=>(m6 0 (show(["_law_j","_law_i"]:List Str).Nodup by decide +kernel))) (λ_ _ _ _=>dM) (λ_ _ _ _=>(qK K (dS (af av (af av ai))) (O4 vH T.Fw (af (Gb bB (aE bM (aE bX (aE gJ ao (pv 1)) (pv 0)) ao) ao) ai)))))))
   (ak (aN (eH (wZ K rfl lq) (jS iO hr T.kW T.iM.kp T.kU (af (pv 8) ai)) (jS mP hr T.mL T.je.kp T.mK (af (pv 8) ai))) (ak (aA jh)) aC))) aC)
   (ak (aA (Gb bB (kq bI T.cD (af (pv 7) ai)) (jS xY hr T.xF T.oQ.kp T.xE (af (pv 3) (af (pv 4) (af (pv 5) ai))))))))))))))))),?_⟩
  refine⟨_,O,a,_,_,O,hS,by decide,λc0=>⟨c0,_,O,by decide,by decide,λxl xs H1 hnl hnp Lg hl s1=>?_⟩⟩
  have hn:xs.length=12:=hnl
  obtain⟨n0,n1,n2,n3,n4,n5,n6,n7,n8,n9,Dm,IJ,rfl⟩:∃n0 n1 n2 n3 n4 n5 n6 n7 n8 n9 Dm IJ,xs=[n0,n1,n2,n3,n4,n5,n6,n7,n8,n9,Dm,IJ]:=by
   match xs,hn with
   |[n0,n1,n2,n3,n4,n5,n6,n7,n8,n9,Dm,IJ],_=>exact⟨_,_,_,_,_,_,_,_,_,_,_,_,rfl⟩
  have Qm:∀c∈(Str.ofString " !\"#$&'()*+,-./0123456789:;<=>?@ABCDEFGHIJKLMNOPQRSTUVWXYZ\x5b\\]^_`abcdefghijklmnopqrstuvwxyz{|}~").cps.toList,Pn c:=by decide +kernel
  have Ky:(Str.ofString " !\"#$&'()*+,-./0123456789:;<=>?@ABCDEFGHIJKLMNOPQRSTUVWXYZ\x5b\\]^_`abcdefghijklmnopqrstuvwxyz{|}~").length<=sizeLine:=by decide +kernel
  obtain⟨pa,qa,e1,e2,m1,m2,hab⟩:=Ho (xs:=(Str.ofString " !\"#$&'()*+,-./0123456789:;<=>?@ABCDEFGHIJKLMNOPQRSTUVWXYZ\x5b\\]^_`abcdefghijklmnopqrstuvwxyz{|}~").cps.toList) (by decide +kernel) (by decide +kernel) n0 n1
  have hpa:=Qm pa m1
  have NZ:=Qm qa m2
  clear Qm m1 m2
  have g:=Pe hpa NZ
  have Nf:pa≠10:=λe=>by rw[e]at hpa;exact absurd hpa (by decide)
  have IM:qa≠10:=λe=>by rw[e]at NZ;exact absurd NZ (by decide)
  refine⟨_,O,_,O,xl,_,_,_,O,O,aX.of hl,O,_,_,O,O,(by show(0:Int)<94;decide),_,_,_,O,O,Ky,e1,?_⟩
  dsimp only[bA]
  refine⟨_,O,_,O,_,_,_,_,O,O,aX.of hl,O,_,_,O,O,_,O,_,_,_,_,O,O,aX.of hl,O,_,_,O,O,(by show(0:Int)<93;decide),_,_,O,O,_,_,O,O,(by show(0:Int)<94;decide),_,_,_,O,O,Ky,e2,?_⟩
  dsimp only[bA]
  clear e1 e2 Ky
  rw[show(⟨#[pa]⟩:Str)=sg pa from rfl,show(⟨#[qa]⟩:Str)=sg qa from rfl]
  have j1:=cR (sg pa) (sg qa)
  have j2:=cR (sg pa++sg qa) (Str.ofString "\n ab")
  have j3:(Str.ofString "\n ab").length=4:=by decide +kernel
  rw[fH,fH]at j1
  have j4:cy ((sg pa++sg qa)++Str.ofString "\n ab"):=tQ (tQ (λc hc=>by rw[YF.mp (show c∈[pa]from hc)];exact .inr hpa) (λc hc=>by rw[YF.mp (show c∈[qa]from hc)];exact .inr NZ)) (by show ∀c∈_,_;decide +kernel)
  refine⟨_,O,_,O,_,_,O,O,by rw[fH,fH];omega,_,_,O,O,by omega,_,O,_,xl,_,O,hl,O,hnp,j4,by omega,by omega,λl xs t H2 s2 Wg hl2 pr tok=>?_⟩
  have s12:=s1.trans s2
  have hlx:=pr.length
  have Wh:=tok.n
  have lo:∀r∈t,1<=r.length:=λr hr=>(tok.rows r hr).lo
  have hi:∀r∈t,r.length<=20:=λr hr=>(tok.rows r hr).hi
  have lst:=E8 hab Nf IM lo
  have bnd:(t.map (sN pa qa)).sum<=4400:=by
   have:=BO (a:=pa) (b:=qa) hi
   have:=tok.sum
   omega
  refine⟨_,O,l,O,⟨_,aX.of hl2⟩,λD hD=>?_⟩
  refine fG (K:=K) (a:=l) (xs:=xs) (λi ys τ G=>(∃v,τ=[v])/\aF H2 G/\G D=some (.lst ys)/\Paired (cF D G) ys (t.take i)) ⟨⟨_,rfl⟩,au hD,aj,.nil⟩ (λi ys τ G _ p=>⟨aX.of (p.2.1 _ _ hl2),p.2.2.1⟩) ?_ ?_
  ·rintro i e ys τ G hi ⟨⟨v,rfl⟩,sG,hG,hp⟩
   obtain⟨r,NO,b,rfl,hb⟩:=aP pr i e hi
   have hil:i<xs.length:=(YG.mp hi).1
   have hyl:=hp.length
   rw[Zn]at hyl
   refine pU ?_
   refine⟨_,O,b,_,O,.inl (aX.of (sG _ _ hb)),λu Gg=>?_⟩
   have su:=au (o:=HO.lst (r.map V.str)) Gg
   refine⟨su _ _ hG,YO (show ys.length<=60 by omega) (by decide),⟨_,O⟩,aK hD (sG.trans su),aj,?_⟩
   rw[aM NO]
   exact aB (λa b h=>cF.but h) (bP (aB (λa b h=>cF.mono su h) hp) ⟨u,rfl,ZI (aT hG Gg),aj⟩)
  rintro ys τ H3 ⟨⟨v,rfl⟩,s3,Qn,hp⟩
  rw[hlx,YR (YB _)]at hp
  have Qo:=aB (λa b h=>cF.row h) hp
  clear hp
  have hl3:=s3 _ _ hl2
  have Qp:=aB (λa b h=>aU.mono s3 h) pr
  dsimp only[bA]
  refine⟨_,O,D,ys,t,O,Qn,Qo,tok,λu1 Qq H4 Qt hu1 pu1 s4=>?_⟩
  refine⟨_,O,l,xs,t,O,s4 _ _ hl3,aB (λa b h=>aU.mono s4 h) Qp,tok,λu2 Qu H5 Qv N1 pu2 s5=>?_⟩
  refine⟨⟨1,u1,u2,Qq,Qu,O,O,by decide,pu1.length.trans pu2.length.symm,.inr ⟨aX.of (s5 _ _ hu1),aX.of N1⟩,vU (aB (λa b h=>bW.mono s5 h) pu1) pu2⟩,_,O,cU ?_⟩
  have Lv:=s4.trans s5
  have Qw:=Lv _ _ Qn
  have SI:=Lv _ _ hl3
  have Kz:=aB (λa b h=>aU.mono Lv h) Qo
  have SJ:=aB (λa b h=>aU.mono Lv h) Qp
  have SK:=s12.trans (s3.trans Lv)
  clear hu1 pu1 N1 pu2 s4 s5 Lv hl3 Qp Qo Qn hl2 pr s3 s12 s1 s2
  refine⟨_,O,_,O,λx dx hx hdx ne=>⟨_,_,_,_,_,_,_,_,_,O,aj,g,λH6 SM kp=>⟨O,?_⟩⟩⟩
  have s6:aF H5 H6:=λb o e=>kp b o (by rw[az (aT e hx),az (aT e hdx)];exact e) (aT e hx)
  clear kp
  obtain⟨Yx,Ng,Wi⟩:=lst.1
  obtain⟨Wj,Wk,Nh⟩:=Ge.walk lR Ng
  refine⟨_,O,x,dx,D,ys,t,uL (sg qa) (aR t),Wj,_,sg pa,sg qa,("":Str),true,true,false,false,O,SM,g,s6 _ _ Qw,aB (λa b h=>aU.mono s6 h) Kz,tok,Ue g lR (JM tok),Nh,YJ rfl,by omega,λcs m H7 hcw hcg Kp s7=>?_⟩
  have KA:=EW lR hcw hcg Kp
  have hcl:cs.length=(t.map (sN pa qa)).sum:=ng.one KA.2 lst
  have hF:(Txt.join ("":Str) (cs.map sg)).cps.toList=cs:=zq cs
  have SN:(Txt.join ("":Str) (cs.map sg)).length=cs.length:=E1 cs
  generalize Txt.join ("":Str) (cs.map sg)=F at hF SN⊢
  have Qx:=KA.1
  rw[←hF]at Qx
  have Lw:=s6.trans s7
  have SO:=Lw _ _ Qw
  have N2:=Lw _ _ SI
  have Ni:=aB (λa b h=>aU.mono Lw h) Kz
  have N4:=aB (λa b h=>aU.mono Lw h) SJ
  have Gh:=SK.trans Lw
  clear Kp Nh hcw hcg KA Qw SI Kz SJ s6 s7 Lw SK lst Ng SM
  dsimp only[bA]
  refine⟨_,O,_,_,_,true,O,.str _,.inl ⟨_,O,O⟩,true,O,cU ?_⟩
  refine⟨_,O,_,O,EZ SO N2 Ni N4,_,O,cU ?_⟩
  refine⟨_,O,_,O,_,O,pa,qa,F,t,O,hab,IM,Qx,lo,by omega,λl8 Yy H8 Qy Qz s8=>?_⟩
  refine⟨_,O,EZ Qy (s8 _ _ N2) Qz (aB (λa b h=>aU.mono s8 h) N4),_,O,cU ?_⟩
  have Qy:=s8 _ _ N2
  have Qz:=aB (λa b h=>aU.mono s8 h) N4
  have Wl:=Gh.trans s8
  clear SO N2 Ni N4 Gh Qx
  dsimp only[Ie]
  refine lO (t:=Dw _ _ _) (λσ G=>aF H8 G/\∃v,σ=[some (.ref a),some (.str (Str.ofString " !\"#$&'()*+,-./0123456789:;<=>?@ABCDEFGHIJKLMNOPQRSTUVWXYZ\x5b\\]^_`abcdefghijklmnopqrstuvwxyz{|}~")),some (.ref xl),some (.str (sg pa)),some (.str (sg qa)),some (.ref l),some (.ref D),some (.str F),v]) ?_ (λgo=>?_)
  ·rintro σ9 H9 ⟨s9,v,rfl⟩
   refine⟨_,O,F,O,by omega,_,O,_,O,_,O,pa,qa,l,xs,t,O,s9 _ _ Qy,aB (λa b h=>aU.mono s9 h) Qz,tok,λJs Io=>?_⟩
   have e6:decide (V.int (F.length:Int)=V.int (((t.map (sN pa qa)).sum:Nat):Int))=true:=YJ (by rw[SN,hcl])
   have kk:=k Js
   rw[←e6]at kk
   exact⟨O,kk⟩
  refine⟨_,O,_,_,_,O,Wl.seq hS,(by omega),λc4=>⟨_,_,O,O,(by omega),O,_,O,?_⟩⟩
  refine yY (λhc=>?_) (λhc=>?_)
  rotate_left
  ·exact go _ _ ⟨aF.refl _,_,rfl⟩
  refine⟨_,O,(by omega),(by omega),λD2 SQ=>?_⟩
  refine m5 (λi ys τ H2=>(∃v,τ=[v])/\aF H8 H2/\H2 D2=some (.lst ys)/\Paired (cF D2 H2) ys ((List.range i).map AF)) ⟨⟨_,rfl⟩,au SQ,aj,.nil⟩ (λi ys τ H2 _ p=>p.2.2.1) ?_ ?_
  ·rintro i ys τ H2 hi ⟨⟨v,rfl⟩,s2,h2,hp⟩
   have hyl:=hp.length
   rw[YC,ZD]at hyl
   refine pU ?_
   refine⟨_,O,(by omega),(by omega),λE hE=>?_⟩
   refine m5 (λj zs τ2 H3=>(∃v,τ2=[v,some (.int (0+(i:Int)))])/\aF H2 H3/\H3 E=some (.lst zs)/\zs=((List.range j).map λm=>Fd (20*i+m)).map V.str) ⟨⟨_,rfl⟩,au hE,aj,rfl⟩ (λi ys τ H2 _ p=>p.2.2.1) ?_ ?_
   ·rintro j zs τ2 H3 hj ⟨⟨v,rfl⟩,s3,h3,rfl⟩
    have hj:j<20:=by simpa using hj
    refine pU ?_
    refine⟨(by decide),λq hq=>⟨_,O,_,_,O,O,.inl ⟨(by omega),(by omega)⟩,_,O,_,_,O,O,_,_,O,O,(by omega),O,.inr (⟨_,O,?_⟩)⟩⟩
    have hat:zV [V.str ("":Str),V.str (",":Str)] (if decide ((λi j=>V.int (i % j)) (20*(0+(i:Int))+(0+(j:Int))) 3=V.int 0)=true then 1 else 0)=some (.str (Fd (20*i+j))):=by
     unfold Fd
     by_cases hc:(20*i+j) % 3=0
     ·have e:(λi j=>V.int (i % j)) (20*(0+(i:Int))+(0+(j:Int))) 3=V.int 0:=congrArg V.int (by omega)
      rw[YA hc,YJ e,YA rfl];rfl
     ·have e:¬(λi j=>V.int (i % j)) (20*(0+(i:Int))+(0+(j:Int))) 3=V.int 0:=λz=>by
       have z:V.int ((20*(0+(i:Int))+(0+(j:Int))) % 3)=V.int 0:=z
       injection z with z
       omega
      rw[Yz hc,YK e,Yz (by decide)];rfl
    refine⟨q,_,_,_,O,O,aX.of aj,hat,(au hq) _ _ h3,?_,⟨_,O⟩,aK hE (s3.trans (au hq)),aj,?_⟩
    ·rw[YC,YC,ZD]
     exact YZ hj (by decide)
    ·rw[List.range_succ,YW,YW];rfl
   ·rintro zs τ2 H3 ⟨⟨v,rfl⟩,s3,h3,rfl⟩
    have h3:H3 E=some (.lst ((AF i).map V.str)):=h3
    have nE:E≠D2:=λq=>by rw[q,h2]at hE;cases hE
    refine⟨s3 _ _ h2,by rw[hyl];exact YZ (show i<60 by simpa using hi) (by decide),⟨_,O⟩,aK SQ (s2.trans s3),aj,?_⟩
    rw[List.range_succ,YW]
    exact aB (λa b h=>cF.but h) (bP (aB (λa b h=>cF.mono s3 h) hp) ⟨E,rfl,nE,h3⟩)
  rintro QA τ H9 ⟨⟨v,rfl⟩,s9,h9,hp⟩
  have Na:Paired (aU H9) QA ((List.range 60).map AF):=aB (λa b h=>cF.row h) hp
  clear hp
  dsimp only[bA]
  refine⟨_,O,D2,QA,_,O,h9,Na,BP,λu1 Qq H4 Qt hu1 pu1 s4=>?_⟩
  refine⟨_,O,D2,QA,_,O,s4 _ _ h9,aB (λa b h=>aU.mono s4 h) Na,BP,λu2 Qu H5 Qv N1 pu2 s5=>?_⟩
  refine⟨⟨1,u1,u2,Qq,Qu,O,O,by decide,pu1.length.trans pu2.length.symm,.inr ⟨aX.of (s5 _ _ hu1),aX.of N1⟩,vU (aB (λa b h=>bW.mono s5 h) pu1) pu2⟩,_,O,cU ?_⟩
  exact go _ _ ⟨(s9.trans s4).trans s5,_,rfl⟩
end
end
theorem all_mk{l:W.OpenLaw}{w:World}{K:W.Frag}{h:Heap}{mg:Str->Option Value}{fa lD iy bT lE o6 j0 iP FF iQ iR cj iS wF zS lF uO wG j5 mQ qO lG gA j6 mR mS j7 o7 qP jl fY fB lH jm o8 wH wI uP lI o9 pq mT qQ pA pB FG br gi cK cu bJ fq bK iT ya A5 FH:Addr}{Wm QB QC HA QD KC:Option Addr}{sl2 QE QF:Array (Option Value)}{Wn QG QH QI N5 QJ QK HB HC HD FI HE QL KD KG KH HF KI:Value}{A6:Str}{bC eV:Addr}(X:K.In h)(G:h.Ns mainGlobals mg)(Wo:mg "law"=some (.ref fa))(A7:W.nsIn K mainGlobals "Dialect"=some (some (.ref br)))(HG:W.nsIn K mainGlobals "Turn"=some (some (.ref gi)))(CU:W.nsIn K mainGlobals "Marker"=some (some (.ref cK)))(CV:W.nsIn K mainGlobals "Writer"=some (some (.ref cu)))(gj:W.nsIn K mainGlobals "DialectError"=some (some (.ref bJ)))(jN:W.nsIn K mainGlobals "NoWriting"=some (some (.ref bK)))(l0:FQ K "is_printable" gT lD)(l1:FQ K "are_unlike_signs" cQ iy)(a2:W.findIn K (.ref br) "__init__"=some (some (.ref bT)))(i2:W.isFn K (.ref bT)=true)(l2:K.lookup bT=FO "__init__" "Dialect.__init__" aY (.ref bC) Wn Wm QG QH QI QB N5 QJ sl2)(c2:W.codeIn K N5 "Dialect.__init__"=true)(k2:W.keepIn K (.ref bT)=true){Nj:Option Addr}{QM:Nat}{Nk:Array (Option Value)}{Nl Nm:Tok}(d2:K.lookup bC=some ⟨.type "tuple",Nj,.seq #[.str ("":Str) Nl,.str ("":Str) Nm,.bool false,.bool false,.bool false,.bool false] QM,Nk⟩)(l3:FV K br "told" "Dialect.told" gU lE)(l4:FQ K "dialect_of" jx o6)(l5:FV K gi "__init__" "Turn.__init__" f6 j0)(l6:FV K cK "__init__" "Marker.__init__" e7 iP)(l7:FQ K "once" Aw FF)(l8:FV K br "special" "Dialect.special" e9 iQ)(l9:FV K cu "__init__" "Writer.__init__" ff iR)(RP:FE K "__init__" "NoWriting.__init__" fX cj)(Wq:FQ K "has_signs_alone" c9 iS)(Wr:FQ K "is_cell" pQ wF)(Ws:FQ K "is_row" nT zS)(Wt:FQ K "signs_in_row" fh lF)(Wu:FQ K "is_table" gW uO)(Wv:FQ K "is_live" pR wG)(Ww:FQ K "tokens_of_row" d8 j5)(Wx:FQ K "check_table" iY mQ)(Wy:FQ K "tokens_of" kF qO)(Wz:FQ K "count_behind" gX lG)(WA:FQ K "step_at_beginning" dU gA)(WB:FQ K "step_in_plain" f7 j6)(WC:FQ K "step_within" iZ mR)(WD:FQ K "step_behind" i0 mS)(WE:FQ K "step_in_doubt" f9 j7)(WG:FQ K "step_freed" jy o7)(WH:FV K gi "step" "Turn.step" kG qP)(WI:FV K gi "live_step" "Turn.live_step" fJ jl)(WJ:FV K cK "mark_behind" "Marker.mark_behind" dB fY)(WK:FV K cK "has_read_all" "Marker.has_read_all" cZ fB)(WL:FV K cu "leads" "Writer.leads" dD lH)(WM:FV K cu "is_good" "Writer.is_good" fK jm)(WN:W.nsIn K mainGlobals "search"=RF o8)(WO:K.lookup o8=FO "search" "search" dF (.ref eV) QK QC HB HC HD HA FI HE QE)(WQ:W.codeIn K FI "search"=true)(WR:W.keepIn K (.ref o8)=true){KJ:Option Addr}{Np:Nat}{KL:Array (Option Value)}(SR:K.lookup eV=some ⟨.type "tuple",KJ,.seq #[.none] Np,KL⟩)(WS:FQ K "text_to" pS wH)(WT:FQ K "cell_at" pT wI)(WU:FQ K "shortest" m8 uP)(WV:FQ K "_law_cell_at" gY lI)(WW:FQ K "_law_mixed" jz o9)(WX:FQ K "_law_drawn" gC pq)(WY:FQ K "_law_tokens" i7 mT)(WZ:FQ K "_law_read" kH qQ)(W0:FQ K "_law_signs" jA pA)(W2:FQ K "_law_table" gD pB)(SS:W.nsIn K mainGlobals "law"=RF FG)(W3:K.lookup FG=FO "law" "law" mD .none QL QD KD KG KH KC HF KI QF)(W4:W.codeIn K HF "law"=true)(W5:W.keepIn K (.ref FG)=true)(A8:W.plainGet K br Str.empty=true)(A9:W.hasDictIn K br=true)(Ba:W.plainOver K br=true)(Bb:W.findIn K (.ref br) "__setattr__"=some (some (.builtin "object.__setattr__")))(Bc:W.makesIn K br=true)(Bd:W.keepIn K (.ref br)=true)(bF:W.findIn K (.ref br) "parts"=some none)(bH:W.findIn K (.ref br) "quotes"=some none)(bz:W.findIn K (.ref br) "frees"=some none)(dI:W.findIn K (.ref br) "twin"=some none)(cI:W.findIn K (.ref br) "wide"=some none)(cJ:W.findIn K (.ref br) "thin"=some none)(cV:W.findIn K (.ref br) "stray"=some none)(HH:W.plainGet K gi Str.empty=true)(HJ:W.hasDictIn K gi=true)(HK:W.plainOver K gi=true)(HL:W.findIn K (.ref gi) "__setattr__"=some (some (.builtin "object.__setattr__")))(HM:W.makesIn K gi=true)(HN:W.keepIn K (.ref gi)=true)(bw:W.findIn K (.ref gi) "dialect"=some none)(CY:W.plainGet K cK Str.empty=true)(CZ:W.hasDictIn K cK=true)(C3:W.plainOver K cK=true)(C4:W.findIn K (.ref cK) "__setattr__"=some (some (.builtin "object.__setattr__")))(C5:W.makesIn K cK=true)(C6:W.keepIn K (.ref cK)=true)(fR:W.findIn K (.ref cK) "turn"=some none)(cW:W.findIn K (.ref cK) "tokens"=some none)(C7:W.plainGet K cu Str.empty=true)(C8:W.hasDictIn K cu=true)(C9:W.plainOver K cu=true)(Dc:W.findIn K (.ref cu) "__setattr__"=some (some (.builtin "object.__setattr__")))(Dd:W.makesIn K cu=true)(De:W.keepIn K (.ref cu)=true)(cX:W.findIn K (.ref cu) "marker"=some none)(d9:W.findIn K (.ref cu) "tokens"=some none)(fk:W.findIn K (.ref cu) "usual"=some none){rT rU:Str}{rV qw:List Value}{qx rW:Bool}{rX:List Str}{qy:Option Bool}{rY qz:Option Addr}{rZ r8 sd sj sr:Option Value}{qA:Value}{jn:Array DictEntry}{sy:Nat}{qB:Array (Option Value)}(gk:K.lookup bJ=some (excClassObj rT rU bJ fq rV GY qx rX qw rW qy rY rZ r8 sd sj sr "ValueError.__new__"))(gm:K.lookup fq=some ⟨qA,qz,.dict jn sy,qB⟩)(pC:(jn.toList.all λe=>match e.key with | .str _ _=>true|_=>false)=true)(gn:W.nsIn K fq "__init__"=some none)(sC:W.specialIn K (.ref bJ) "__getattribute__"=some (some (.builtin "type.__getattribute__")))(sD:W.readsIn K bJ (.type "type")=true)(sE:W.findCls K (.ref bJ) (.type "type") "__init__"=some (.val (.builtin "ValueError.__init__"))){yb yc:Str}{yd vt:List Value}{vv ye:Bool}{yf:List Str}{vz:Option Bool}{yg vA:Option Addr}{yh yi yj yk yl:Option Value}{vB:Value}{mU:Array DictEntry}{ym:Nat}{vC:Array (Option Value)}(jO:K.lookup bK=some (excClassObj yb yc bK iT yd (.ref bJ::GY) vv yf vt ye vz yg yh yi yj yk yl "ValueError.__new__"))(jP:K.lookup iT=some ⟨vB,vA,.dict mU ym,vC⟩)(uQ:(mU.toList.all λe=>match e.key with | .str _ _=>true|_=>false)=true)(jQ:W.nsIn K iT "__init__"=some (some (.ref cj))){vD:Option Addr}{vE:Data}{vF:Array (Option Value)}(yo:W.keepIn K (.ref bK)=true)(yp:K.lookup cj=some ⟨.type "function",vD,vE,vF⟩)(mV:W.findIn K (.ref bK) "__setattr__"=some (some (.builtin "object.__setattr__")))(mW:W.findIn K (.ref bK) "__getattribute__"=some (some (.builtin "BaseException.__getattribute__")))(mX:W.findIn K (.ref bK) "__getattr__"=some none)(mY:W.hasDictIn K bK=true)(qC:W.findIn K (.ref bK) "row"=some none)(pD:W.findIn K (.ref bK) "cell"=some none)(Nq:W.nsIn K mainGlobals "all"=some none)(KN:W.nsIn K mainGlobals "bool"=some none)(zT:W.nsIn K mainGlobals "enumerate"=some none)(Nr:W.nsIn K mainGlobals "int"=some none)(yq:W.nsIn K mainGlobals "isinstance"=some none)(Nt:W.nsIn K mainGlobals "len"=some none)(KO:W.nsIn K mainGlobals "list"=some none)(z_ord:W.nsIn K mainGlobals "ord"=some none)(HP:W.nsIn K mainGlobals "range"=some none)(Be:W.nsIn K mainGlobals "reversed"=some none)(Nu:W.nsIn K mainGlobals "str"=some none)(Nv:W.nsIn K mainGlobals "sum"=some none)(HQ:W.nsIn K mainGlobals "tuple"=some none){HR:Tok}(KP:W.nsIn K mainGlobals "LINE"=some (some (.str A6 HR)))(KQ:A6=("\n":Str)){yr:Tok}(zU:W.nsIn K mainGlobals "MOST_ROWS"=some (some (.int 60 yr))){vG:Tok}(yt:W.nsIn K mainGlobals "MOST_CELLS"=some (some (.int 20 vG))){jR:Tok}(ko:W.nsIn K mainGlobals "MOST_SIGNS_IN_CELLS"=some (some (.int 400 jR)))(HS:W.nsIn K mainGlobals "START"=some (some (.ref ya))){FJ:Option Addr}{HU:Nat}{FL:Array (Option Value)}{FP FT:Tok}(HV:K.lookup ya=some ⟨.type "tuple",FJ,.seq #[.str ("row":Str) FP,.str ("":Str) FT] HU,FL⟩)(KR:W.nsIn K mainGlobals "PART"=some (some (.ref A5))){HW:Option Addr}{KS:Nat}{HX:Array (Option Value)}{HY HZ:Tok}(KU:K.lookup A5=some ⟨.type "tuple",HW,.seq #[.str ("part":Str) HY,.str ("":Str) HZ] KS,HX⟩)(Nx:W.nsIn K mainGlobals "END"=some (some (.ref FH))){KW:Option Addr}{Ny:Nat}{KY:Array (Option Value)}{KZ K0:Tok}(Nz:K.lookup FH=some ⟨.type "tuple",KW,.seq #[.str ("end":Str) KZ,.str ("":Str) K0] Ny,KY⟩):∃fd:FuncData,(∀(s:Shared)(v:Value),BindsTo s fd ⟨[v],[]⟩ [("_law_script",v)])/\∀base:Heap,K.In base->base.Ns mainGlobals mg->bD l.prog w K mg base fT 13 fa fd ["_law_script"] (xW K):=by
 have e:=Wo.symm.trans (W.mg_of X G SS)
 cases e
 have mo:∀{n:Str}{v:Value},W.nsIn K mainGlobals n=some (some v)->mg n=some v:=λe=>W.mg_of X G e
 have mz:∀{n:Str},W.nsIn K mainGlobals n=some none->mg n=none:=λe=>W.mg_none_of X G e
 obtain⟨a0,SV,F0⟩:=l0
 have b0:=F0.m7 (ps:=["sign"])
 obtain⟨a1,W6,F1⟩:=l1
 have b1:=F1.pP (ps:=["thing","least","most"])
 have F2:=Bu (st:=aY) l2 c2 k2
 have b2:Binds K (W.fnOf "__init__" "Dialect.__init__" (bZ aY) (bN aY) (aq aY) (.ref bC) QG QH QI QB N5 QJ) ["self","parts","quotes","frees","twin","wide","thin","stray"] []:=λs us hK hl=>match us,hl with |[_,_,_,_,_,_,_,_],_=>BindsTo.of_defaults (T:=bC) rfl (hK _ _ d2) rfl rfl rfl
 obtain⟨a3,i3,W7,F3⟩:=l3
 have b3:=F3.m7 (ps:=["self"])
 obtain⟨a4,W8,F4⟩:=l4
 have b4:=F4.m7 (ps:=["told"])
 obtain⟨a5,i5,W9,F5⟩:=l5
 have b5:=F5.nS (ps:=["self","dialect"])
 obtain⟨a6,i6,Xa,F6⟩:=l6
 have b6:=F6.pP (ps:=["self","dialect","tokens"])
 obtain⟨a7,Xb,F7⟩:=l7
 have b7:=F7.m7 (ps:=["text"])
 obtain⟨a8,i8,Xc,F8⟩:=l8
 have b8:=F8.m7 (ps:=["self"])
 obtain⟨a9,i9,Xd,F9⟩:=l9
 have b9:=F9.pP (ps:=["self","dialect","tokens"])
 obtain⟨QN,SW⟩:=RP
 have Xe:=SW.pP (ps:=["self","row","cell"])
 obtain⟨PY,QO,SX⟩:=Wq
 have JV:=SX.m7 (ps:=["text"])
 obtain⟨Xf,QS,SY⟩:=Wr
 have Xg:=SY.m7 (ps:=["thing"])
 obtain⟨Xh,QT,S0⟩:=Ws
 have Xi:=S0.m7 (ps:=["thing"])
 obtain⟨Hw,QU,S1⟩:=Wt
 have Xj:=S1.m7 (ps:=["row"])
 obtain⟨Xk,QV,S2⟩:=Wu
 have Xl:=S2.m7 (ps:=["thing"])
 obtain⟨Xm,QW,S3⟩:=Wv
 have Xn:=S3.nS (ps:=["dialect","state"])
 obtain⟨Xo,QX,S4⟩:=Ww
 have Xp:=S4.m7 (ps:=["row"])
 obtain⟨Xq,QY,S5⟩:=Wx
 have Hx:=S5.m7 (ps:=["thing"])
 obtain⟨Xr,QZ,S6⟩:=Wy
 have Xs:=S6.m7 (ps:=["table"])
 obtain⟨Xu,Q0,S7⟩:=Wz
 have Xv:=S7.O5 (ps:=["tokens","count","kind","sign"])
 obtain⟨Hy,Q2,S8⟩:=WA
 have Xw:=S8.pP (ps:=["dialect","state","sign"])
 obtain⟨Xx,Q3,S9⟩:=WB
 have Xy:=S9.nS (ps:=["dialect","sign"])
 obtain⟨Xz,Q4,Tc⟩:=WC
 have XA:=Tc.pP (ps:=["dialect","quote","sign"])
 obtain⟨Kl,Q5,Td⟩:=WD
 have XC:=Td.nS (ps:=["dialect","sign"])
 obtain⟨XD,Q6,Te⟩:=WE
 have XE:=Te.pP (ps:=["dialect","quote","sign"])
 obtain⟨PK,Q7,Tf⟩:=WG
 have XF:=Tf.pP (ps:=["dialect","quote","sign"])
 obtain⟨XG,XH,Q8,Q9⟩:=WH
 have XI:=Q9.pP (ps:=["self","state","sign"])
 obtain⟨XJ,XM,Ra,Rb⟩:=WI
 have MU:=Rb.pP (ps:=["self","state","sign"])
 obtain⟨MW,XO,Rc,Rf⟩:=WJ
 have XQ:=Rf.pP (ps:=["self","mark","sign"])
 obtain⟨XR,XS,Rg,Rh⟩:=WK
 have XT:=Rh.nS (ps:=["self","mark"])
 obtain⟨MV,XU,Ri,Rj⟩:=WL
 have XW:=Rj.nS (ps:=["self","place"])
 obtain⟨a32,XX,Rk,Rl⟩:=WM
 have XY:=Rl.nS (ps:=["self","place"])
 have XZ:=Bu (st:=dF) WO WQ WR
 have X0:Binds K (W.fnOf "search" "search" (bZ dF) (bN dF) (aq dF) (.ref eV) HB HC HD HA FI HE) ["first","searched","most"] []:=λs us hK hl=>match us,hl with |[_,_,_],_=>BindsTo.of_defaults (T:=eV) rfl (hK _ _ SR) rfl rfl rfl
 obtain⟨Pz,Rm,Tg⟩:=WS
 have X3:=Tg.nS (ps:=["came","place"])
 obtain⟨X4,Rn,Th⟩:=WT
 have X5:=Th.nS (ps:=["tokens","count"])
 obtain⟨PF,Ro,Ti⟩:=WU
 have X6:=Ti.nS (ps:=["dialect","table"])
 obtain⟨X7,Rp,Tj⟩:=WV
 have X8:=Tj.nS (ps:=["_law_script","_law_k"])
 obtain⟨Yb,Rq,To⟩:=WW
 have PB:=To.nS (ps:=["_law_number","_law_salt"])
 obtain⟨PJ,Rr,Tp⟩:=WX
 have Yc:=Tp.nS (ps:=["_law_cell","_law_many"])
 obtain⟨Yd,Rt,Tq⟩:=WY
 have Ye:=Tq.m7 (ps:=["_law_table_here"])
 obtain⟨PD,Ru,Tr⟩:=WZ
 have Yg:=Tr.pP (ps:=["_law_part","_law_quote","_law_text"])
 obtain⟨Yh,Rv,Tt⟩:=W0
 have Yi:=Tt.pP (ps:=["_law_part","_law_quote","_law_table_here"])
 obtain⟨Yj,Rx,Tu⟩:=W2
 have Yk:=Tu.nS (ps:=["_law_signs_here","_law_xs"])
 have Tv:=DV (st:=mD) W3 W4 W5
 have Yl:=Tv.m7 (ps:=["_law_script"])
 have Ym:∃ds,Vals [V.non] ds/\Binds K (W.fnOf "search" "search" (bZ dF) (bN dF) (aq dF) (.ref eV) HB HC HD HA FI HE) ["first","searched","most"] ds:=⟨[.none],(.cons rfl .nil),λs us hK hl=>by
  have hn:us.length=2:=by rw[YE]at hl;simp only[YY,List.length_nil]at hl;omega
  exact match us,hn with |[_,_],_=>BindsTo.of_defaults (T:=eV) rfl (hK _ _ SR) rfl rfl rfl⟩
 exact⟨W.fnOf "law" "law" (bZ mD) (bN mD) (aq mD) .none KD KG KH KC HF KI,λs v=>.of_eq rfl,λbase _ _=>Kw (ay:=λi=>[lD,iy,bT,lE,o6,j0,iP,FF,iQ,iR,cj,iS,wF,zS,lF,uO,wG,j5,mQ,qO,lG,gA,j6,mR,mS,j7,o7,qP,jl,fY,fB,lH,jm,o8,wH,wI,uP,lI,o9,pq,mT,qQ,pA,pB,fa,br,gi,cK,cu,bJ,fq,bK,iT,ya,A5,FH,bC,eV].getD i fa) (aO:=λi=>[SV,W6,FN "__init__" "Dialect.__init__" aY (.ref bC) QG QH QI QB N5 QJ,W7,W8,W9,Xa,Xb,Xc,Xd,QN,QO,QS,QT,QU,QV,QW,QX,QY,QZ,Q0,Q2,Q3,Q4,Q5,Q6,Q7,Q8,Ra,Rc,Rg,Ri,Rk,FN "search" "search" dF (.ref eV) HB HC HD HA FI HE,Rm,Rn,Ro,Rp,Rq,Rr,Rt,Ru,Rv,Rx,FN "law" "law" mD .none KD KG KH KC HF KI].getD i (SV)) (dJ:=λi=>[A6].getD i "") ⟨F0,b0,mo a0,F1,b1,mo a1,F2,b2,F3,b3,⟨a3,i3,F3.kp⟩,F4,b4,mo a4,F5,b5,F6,b6,F7,b7,mo a7,F8,b8,⟨a8,i8,F8.kp⟩,F9,b9,SW,Xe,SX,JV,mo PY,SY,Xg,mo Xf,S0,Xi,mo Xh,S1,Xj,mo Hw,S2,Xl,mo Xk,S3,Xn,mo Xm,S4,Xp,mo Xo,S5,Hx,mo Xq,S6,Xs,mo Xr,S7,Xv,mo Xu,S8,Xw,mo Hy,S9,Xy,mo Xx,Tc,XA,mo Xz,Td,XC,mo Kl,Te,XE,mo XD,Tf,XF,mo PK,Q9,XI,⟨XG,XH,Q9.kp⟩,Rb,MU,⟨XJ,XM,Rb.kp⟩,Rf,XQ,⟨MW,XO,Rf.kp⟩,Rh,XT,⟨XR,XS,Rh.kp⟩,Rj,XW,⟨MV,XU,Rj.kp⟩,Rl,XY,⟨a32,XX,Rl.kp⟩,XZ,X0,mo WN,Tg,X3,mo Pz,Th,X5,mo X4,Ti,X6,mo PF,Tj,X8,mo X7,To,PB,mo Yb,Tp,Yc,mo PJ,Tq,Ye,mo Yd,Tr,Yg,mo PD,Tt,Yi,mo Yh,Tu,Yk,mo Yj,Tv,Yl,mo SS,⟨A8,A9,Ba,Bb⟩,mo A7,⟨Bc,a2,i2,Bd⟩,bF,bH,bz,dI,cI,cJ,cV,⟨HH,HJ,HK,HL⟩,mo HG,⟨HM,a5,i5,HN⟩,bw,⟨CY,CZ,C3,C4⟩,mo CU,⟨C5,a6,i6,C6⟩,fR,cW,⟨C7,C8,C9,Dc⟩,mo CV,⟨Dd,a9,i9,De⟩,cX,d9,fk,Ym,mo gj,⟨⟨_,_,_,_,_,_,_,_,_,_,_,_,_,_,gk⟩,⟨_,_,_,_,_,gm,pC⟩,gn⟩,⟨sC,sD,sE⟩,mo jN,⟨⟨_,_,_,_,_,_,_,_,_,_,_,_,_,_,jO⟩,⟨_,_,_,_,_,jP,uQ⟩,jQ⟩,yo,⟨_,yp,rfl⟩,⟨qC,mV,mW,mX,mY⟩,⟨pD,mV,mW,mX,mY⟩,mz Nq,mz KN,mz zT,mz Nr,mz yq,mz Nt,mz KO,mz z_ord,mz HP,mz Be,mz Nu,mz Nv,mz HQ,⟨_,mo KP⟩,KQ,⟨_,mo zU⟩,⟨_,mo yt⟩,⟨_,mo ko⟩,mo HS,⟨_,_,_,HV,rfl,rfl,(by show 2<=sizeLine;decide),(.cons ⟨_,rfl⟩ (.cons ⟨_,rfl⟩ .nil))⟩,mo KR,⟨_,_,_,KU,rfl,rfl,(by show 2<=sizeLine;decide),(.cons ⟨_,rfl⟩ (.cons ⟨_,rfl⟩ .nil))⟩,mo Nx,⟨_,_,_,Nz,rfl,rfl,(by show 2<=sizeLine;decide),(.cons ⟨_,rfl⟩ (.cons ⟨_,rfl⟩ .nil))⟩⟩⟩
theorem walk{l:W.OpenLaw}{q:Program}{loose:List Str}{XP:(Str->Option Value)->Heap->Prop}{YP:World->Heap->Prop}{d:DefRec}{K:Params->W.Frag}(hn:l.most=some 63)(hdf:d.params.defaults=[])(hY:∀(w:World)(h:Heap),YP w h->(K w.params).In h)(F:∀(w:World)(mg:Str->Option Value)(fa:Addr)(h:Heap),(K w.params).In h->h.Ns mainGlobals mg->mg d.name=some (.ref fa)->∃fd:FuncData,(∀(s:Shared)(u:Value),BindsTo s fd ⟨[u],[]⟩ [("_law_script",u)])/\∀base:Heap,(K w.params).In base->base.Ns mainGlobals mg->bD l.prog w (K w.params) mg base fT 13 fa fd ["_law_script"] (xW (K w.params))):W.WalkO q loose XP YP l.row.toRowW d [] (λf vs=>PySem.call f vs) :=
 L2.GI (n:=63) (k:=13) (x:="_law_script") (CX:=λ_=>fT) (sp:=λw=>xW (K w.params)) hn (by decide) hdf ⟨rfl,by decide,by decide⟩ hY F (λ_ _ a ns hl _ hS=>⟨a,ns,rfl,hS,hl,λ_=>rfl⟩) λ_ _ _ _ _ z=>z
end My
def PySem.W.Fast.tw16320924144072767886:Unit:=()
def PySem.W.Fast.tw9194067979590074572:Unit:=()
def PySem.W.Fast.tw9152169724286347432:Unit:=()
def PySem.W.Fast.tw4109294566739438182:Unit:=()
def PySem.W.Fast.tw4045913626318182458:Unit:=()
def PySem.W.Fast.tw5933271992008603739:Unit:=()
def PySem.W.Fast.tw16996401789713405344:Unit:=()
def PySem.W.Fast.tw18027142517152907736:Unit:=()
def PySem.W.Fast.tw14403031822851152587:Unit:=()
def PySem.W.Fast.tw14044982184093017062:Unit:=()
def PySem.W.Fast.tw14040475836098547799:Unit:=()
def PySem.W.Fast.tw16696161445578704365:Unit:=()
def PySem.W.Fast.tw15212202448662855147:Unit:=()
def PySem.W.Fast.tw12134261329543114726:Unit:=()
def PySem.W.Fast.tw10160573856291020725:Unit:=()
def PySem.W.Fast.tw5640968829044686903:Unit:=()
def PySem.W.Fast.tw8451903033045371952:Unit:=()
def PySem.W.Fast.tw8908642138477630211:Unit:=()
def PySem.W.Fast.tw6940477628896596830:Unit:=()
def PySem.W.Fast.tw12159225950781668239:Unit:=()
def PySem.W.Fast.tw183146870443827267:Unit:=()
def PySem.W.Fast.tw4854731666017380898:Unit:=()
def PySem.W.Fast.tw14791666828618719566:Unit:=()
def PySem.W.Fast.tw12346135009848109977:Unit:=()
def PySem.W.Fast.tw1648440295379674121:Unit:=()
def PySem.W.Fast.tw7384624216823916657:Unit:=()
def PySem.W.Fast.tw10422519301629651116:Unit:=()
def PySem.W.Fast.tw3474356201965293937:Unit:=()
def PySem.W.Fast.tw4383826807444511697:Unit:=()
def PySem.W.Fast.tw14790687310271634922:Unit:=()
def PySem.W.Fast.tw11615760806373475713:Unit:=()
def PySem.W.Fast.tw7477730105100212537:Unit:=()
def PySem.W.Fast.tw5282077680371215314:Unit:=()
def PySem.W.Fast.tw14759191752876264080:Unit:=()
def PySem.W.Fast.tw5080105825793687433:Unit:=()
def PySem.W.Fast.tw591709862787583082:Unit:=()
def PySem.W.Fast.tw3484443870371339007:Unit:=()
def PySem.W.Fast.tw5601476737153652361:Unit:=()
def PySem.W.Fast.tw16762885290022284510:Unit:=()
def PySem.W.Fast.tw12596806960479073514:Unit:=()
def PySem.W.Fast.tw3913139650707363535:Unit:=()
def PySem.W.Fast.tw9179895486576474009:Unit:=()
def PySem.W.Fast.tw10840561198003968420:Unit:=()
def PySem.W.Fast.tw10496760117646214493:Unit:=()
def PySem.W.Fast.tw9507575383644895820:Unit:=()
def PySem.W.Fast.tw11906557224021073209:Unit:=()
def PySem.W.Fast.tw13789795144032789356:Unit:=()
def PySem.W.Fast.tw11019120200629980646:Unit:=()
def PySem.W.Fast.tw17011123853804883275:Unit:=()
def PySem.W.Fast.tw15435217874926746488:Unit:=()
def PySem.W.Fast.tw9568866243419841141:Unit:=()
def PySem.W.Fast.tw16637144357828123477:Unit:=()
def PySem.W.Fast.tw1082775660847684439:Unit:=()
def PySem.W.Fast.tw7814545759901273684:Unit:=()
def PySem.W.Fast.tw989282279092822499:Unit:=()
def PySem.W.Fast.tw12895973981567945924:Unit:=()
def PySem.W.Fast.tw926696000042033428:Unit:=()
def PySem.W.Fast.tw10461711615101538750:Unit:=()
def PySem.W.Fast.tw14505155025035073524:Unit:=()
def PySem.W.Fast.tw13578419249830951530:Unit:=()
def PySem.W.Fast.tw125683475124597820:Unit:=()
def PySem.W.Fast.tw7812907006382276529:Unit:=()
def PySem.W.Fast.tw12444735866363000516:Unit:=()
def PySem.W.Fast.tw6166132391294752619:Unit:=()
def PySem.W.Fast.tw653313259890413209:Unit:=()
def PySem.W.Fast.tw4556682914257796967:Unit:=()
def PySem.W.Fast.tw15919835355202027862:Unit:=()
def PySem.W.Fast.tw12683628051824296935:Unit:=()
def PySem.W.Fast.tw388800410321500957:Unit:=()
def PySem.W.Fast.tw3917377732299784413:Unit:=()
def PySem.W.Fast.tw12616287397199417742:Unit:=()
def PySem.W.Fast.tw4506428985268763684:Unit:=()
def PySem.W.Fast.tw2307482204890852416:Unit:=()
def PySem.W.Fast.tw8291615481909787193:Unit:=()
def PySem.W.Fast.tw3305047953387142067:Unit:=()
def PySem.W.Fast.tw1362391341359936158:Unit:=()
def PySem.W.Fast.tw231102953665803487:Unit:=()
open PySem PySem.W PyProof.Rows
set_option maxRecDepth 100000 in
set_option maxHeartbeats 0 in
theorem PySem.Challenge.cw_dialecthall_k49_large_tables_holds : PySem.Challenge.rw_dialecthall_k49_large_tables.Holds := by
 w_on;o_law;k_head;(case hw=>w_witness2)
 k_fill
 refine My.walk (l:=PySem.Challenge.rw_dialecthall_k49_large_tables) rfl rfl (fun w h Y=>W.kIn_of Y) ?F
 case F =>
  intro w mg fa h KX G hmg
  refine' My.all_mk KX G hmg ?_ ?_ ?_ ?_ ?gj ?jN ?_ ?_ ?_ ?_ ?_ ?_ ?_ ?_ ?_ ?_ ?_ ?_ ?_ ?_ ?_ ?_ ?_ ?_ ?_ ?_ ?_ ?_ ?_ ?_ ?_ ?_ ?_ ?_ ?_ ?_ ?_ ?_ ?_ ?_ ?_ ?_ ?_ ?_ ?_ ?_ ?_ ?_ ?_ ?_ ?_ ?_ ?_ ?_ ?_ ?_ ?_ ?_ ?_ ?_ ?_ ?_ ?_ ?_ ?_ ?_ ?_ ?_ ?_ ?_ ?_ ?_ ?_ ?_ ?_ ?_ ?_ ?_ ?_ ?_ ?_ ?_ ?_ ?_ ?_ ?_ ?_ ?_ ?_ ?_ ?_ ?_ ?_ ?_ ?_ ?_ ?_ ?_ ?_ ?_ ?gk ?gm ?_ ?gn ?_ ?_ ?_ ?jO ?jP ?_ ?jQ ?_ ?_ ?_ ?_ ?_ ?_ ?_ ?_ ?_ ?_ ?_ ?_ ?_ ?_ ?_ ?_ ?_ ?_ ?_ ?_ ?_ ?_ ?_ ?_ ?_ ?_ ?_ ?_ ?_ ?_ ?_ ?_
  (case gj=>k_is)
  (case jN=>k_is)
  (case gk=>k_is)
  (case gm=>k_is)
  (case gn=>k_is)
  (case jO=>k_is)
  (case jP=>k_is)
  (case jQ=>k_is)
  all_goals try first | (refine' L2.FQ.of ?a ?l ?c ?k;(case a=>k_is);(case l=>k_is);(case c=>k_is);(case k=>k_is)) | (refine' L2.FV.of ?a ?i ?l ?c ?k;(case a=>k_is);(case i=>k_is);(case l=>k_is);(case c=>k_is);(case k=>k_is)) | (refine' L2.FE.of ?l ?c ?k;(case l=>k_is);(case c=>k_is);(case k=>k_is)) | k_is | rfl
