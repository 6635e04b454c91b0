import PyProof.Rows.All
import Wide.All
import OpenK.AllK
import Wide.FinOn
import Lean
import PyProof.EqAt
import PyProof.EqKinds
import PyProof.TupleCall
import KE.KSortTup
import PyProof.JoinWalk
import PyProof.DictIter
import PyProof.SeqI3
import PyProof.WalkInts
import PyProof.DictTruth
import PyProof.ListRange
import PyProof.DictWalks
import PyProof.Rows.SortWalk
import PySem.Challenge.RW_dialecthall_k86_trees_looked_at
set_option Elab.async false
set_option linter.all false
set_option maxRecDepth 100000
set_option hygiene false
local macro_rules
|`('a')=>`((λcdv A outer s H vs Q E hr h=>?_))
|`('b')=>`((by omega))
|`('c')=>`((by decide))
|`('d')=>`(("leaf":Str))
|`('e')=>`(("ask":Str))
|`('f')=>`(model X.prog X.w)
|`('g')=>`((λvs H Q E h=>?_))
|`('h')=>`((by show(3:Nat)<=sizeLine;decide))
theorem aa9:type_of% @List.length_map:=@List.length_map
theorem abb:type_of% @if_neg:=@if_neg
theorem abd:type_of% @List.getElem?_eq_some_iff:=@List.getElem?_eq_some_iff
theorem abe:type_of% @PySem.wpAny_bind:=@PySem.wpAny_bind
theorem abf:type_of% @List.mem_singleton:=@List.mem_singleton
theorem abg:type_of% @List.size_toArray:=@List.size_toArray
theorem abh:type_of% @Nat.le_refl:=@Nat.le_refl
theorem abi:type_of% @List.mem_of_getElem?:=@List.mem_of_getElem?
theorem abj:type_of% @if_pos:=@if_pos
theorem abk:type_of% @List.getElem?_eq_getElem:=@List.getElem?_eq_getElem
theorem abl:type_of% @List.mem_cons_self:=@List.mem_cons_self
theorem abm:type_of% @PySem.Heap.get?_push_of_some:=@PySem.Heap.get?_push_of_some
theorem abn:type_of% @decide_eq_false:=@decide_eq_false
theorem abo:type_of% @decide_eq_true:=@decide_eq_true
theorem abp:type_of% @List.mem_cons_of_mem:=@List.mem_cons_of_mem
theorem abq:type_of% @List.length_append:=@List.length_append
theorem abr:type_of% @Nat.lt_of_le_of_lt:=@Nat.lt_of_le_of_lt
theorem abt:type_of% @List.mem_cons:=@List.mem_cons
theorem abu:type_of% @PySem.Heap.lt_size:=@PySem.Heap.lt_size
theorem abv:type_of% @Nat.le_trans:=@Nat.le_trans
theorem abw:type_of% @List.map_append:=@List.map_append
theorem abx:type_of% @Option.some.inj:=@Option.some.inj
theorem aby:type_of% @List.take_of_length_le:=@List.take_of_length_le
theorem abz:type_of% @PySem.wpAny_pure:=@PySem.wpAny_pure
theorem abA:type_of% @Array.length_toList:=@Array.length_toList
theorem abB:type_of% @Bool.false_ne_true:=@Bool.false_ne_true
theorem abC:type_of% @PySem.Heap.get?_push_size:=@PySem.Heap.get?_push_size
theorem abD:type_of% @Nat.lt_of_lt_of_le:=@Nat.lt_of_lt_of_le
theorem abE:type_of% @PySem.F.plainAttrs_list:=@PySem.F.plainAttrs_list
theorem abF:type_of% @List.length_cons:=@List.length_cons
theorem abG:type_of% @List.mem_append:=@List.mem_append
theorem abH:type_of% @PySem.F.slot_list_append:=@PySem.F.slot_list_append
theorem abI:type_of% @PySem.F.type_list_append:=@PySem.F.type_list_append
theorem abJ:type_of% @List.length_take:=@List.length_take
theorem abK:type_of% @List.all_eq_true:=@List.all_eq_true
theorem abL:type_of% @Int.emod_lt_of_pos:=@Int.emod_lt_of_pos
theorem abM:type_of% @List.getElem?_map:=@List.getElem?_map
theorem abN:type_of% @Int.emod_nonneg:=@Int.emod_nonneg
theorem abO:type_of% @List.mem_append_right:=@List.mem_append_right
theorem abP:type_of% @Nat.ne_of_lt:=@Nat.ne_of_lt
theorem abQ:type_of% @PySem.mem_of_lookup:=@PySem.mem_of_lookup
theorem abR:type_of% @Bool.true_and:=@Bool.true_and
theorem abS:type_of% @Bool.eq_iff_iff:=@Bool.eq_iff_iff
theorem abT:type_of% @of_decide_eq_true:=@of_decide_eq_true
theorem abU:type_of% @decide_eq_true_iff:=@decide_eq_true_iff
theorem abV:type_of% @List.getD_eq_getElem?_getD:=@List.getD_eq_getElem?_getD
theorem abW:type_of% @Nat.zero_le:=@Nat.zero_le
theorem abX:type_of% @List.length_pos_iff:=@List.length_pos_iff
theorem abY:type_of% @List.getElem?_zip_eq_some:=@List.getElem?_zip_eq_some
theorem abZ:type_of% @PySem.PassesOwn.never:=@PySem.PassesOwn.never
theorem ab0:type_of% @Bool.false_and:=@Bool.false_and
theorem ab1:type_of% @PyProof.Rows.callWith_type1:=@PyProof.Rows.callWith_type1
theorem ab2:type_of% @List.mem_iff_getElem?:=@List.mem_iff_getElem?
theorem ab3:type_of% @PySem.Heap.get?_update_other:=@PySem.Heap.get?_update_other
theorem ab4:type_of% @Bool.false_eq_true:=@Bool.false_eq_true
theorem ab5:type_of% @PySem.Heap.size_push:=@PySem.Heap.size_push
theorem ab6:type_of% @Bool.and_false:=@Bool.and_false
theorem ab7:type_of% @Option.map_some:=@Option.map_some
theorem ab8:type_of% @List.mem_nil_iff:=@List.mem_nil_iff
theorem ab9:type_of% @Array.getElem?_eq_some_iff:=@Array.getElem?_eq_some_iff
theorem acd:type_of% @List.lookup_cons:=@List.lookup_cons
theorem ace:type_of% @PySem.wpAny_field:=@PySem.wpAny_field
theorem acf:type_of% @Int.eq_ofNat_of_zero_le:=@Int.eq_ofNat_of_zero_le
theorem acg:type_of% @List.nodup_cons:=@List.nodup_cons
theorem ach:type_of% @List.map_cons:=@List.map_cons
theorem aci:type_of% @Nat.le_add_right:=@Nat.le_add_right
theorem acj:type_of% @PySem.wpAny_Call_Name_kw:=@PySem.wpAny_Call_Name_kw
theorem ack:type_of% @List.length_replicate:=@List.length_replicate
theorem acm:type_of% @List.getElem?_eq_none:=@List.getElem?_eq_none
theorem acn:type_of% @PySem.Obj.data_mapFields:=@PySem.Obj.data_mapFields
theorem aco:type_of% @List.getElem?_append_left:=@List.getElem?_append_left
theorem acp:type_of% @PySem.wpAny_mono:=@PySem.wpAny_mono
theorem acq:type_of% @List.append_nil:=@List.append_nil
theorem acr:type_of% @List.mem_of_mem_take:=@List.mem_of_mem_take
theorem acs:type_of% @List.length_zip:=@List.length_zip
theorem acu:type_of% @Ne.symm:=@Ne.symm
theorem acv:type_of% @PySem.W.kia_one:=@PySem.W.kia_one
theorem acw:type_of% @PySem.wpAny_getItem_str_slice:=@PySem.wpAny_getItem_str_slice
theorem acy:type_of% @List.length_drop:=@List.length_drop
theorem acz:type_of% @if_true:=@if_true
theorem acA:type_of% @PySem.wpAny_seqItems:=@PySem.wpAny_seqItems
theorem acB:type_of% @List.getElem?_set_self:=@List.getElem?_set_self
theorem acC:type_of% @PySem.SeqAt.EqAt.of_refs:=@PySem.SeqAt.EqAt.of_refs
theorem acD:type_of% @PySem.wpAny_setField_rec:=@PySem.wpAny_setField_rec
theorem acE:type_of% @PySem.SeqAt.EqAt.same:=@PySem.SeqAt.EqAt.same
theorem acF:type_of% @PySem.wpAny_specialOf:=@PySem.wpAny_specialOf
theorem acG:type_of% @List.getElem?_append_right:=@List.getElem?_append_right
theorem acH:type_of% @if_false:=@if_false
theorem acI:type_of% @List.nodup_append:=@List.nodup_append
theorem acJ:type_of% @List.mem_range:=@List.mem_range
theorem acK:type_of% @Nat.le_of_lt:=@Nat.le_of_lt
theorem acL:type_of% @Nat.ne_of_gt:=@Nat.ne_of_gt
theorem acM:type_of% @List.getElem_mem:=@List.getElem_mem
theorem acN:type_of% @Nat.lt_irrefl:=@Nat.lt_irrefl
theorem acO:type_of% @List.all_cons:=@List.all_cons
theorem O{α:Sort _}{a:α}:a=a:=rfl
namespace L2
open PySem PySem.Spec PyProof.Rows
abbrev Key:=Sum Int Str
def vh:Key->Value->Bool
 | .inl k,v=>Value.isInt k v
 | .inr x,v=>Value.isStrOf x v
def Rh(w:World):Key->Int
 | .inl k=>hashInt k
 | .inr x=>hashStr w x
theorem cO:∀{k:Key}{v:Value},vh k v=true->(∃i t,k=Sum.inl i/\v=Value.int i t)\/(∃x t,k=Sum.inr x/\v=Value.str x t)
 | .inl i,v,h=>by
  obtain⟨t,e⟩:=Value.isInt_shape (k:=i) (v:=v) h
  exact .inl ⟨i,t,rfl,e⟩
 | .inr x,v,h=>by
  obtain⟨t,e⟩:=Value.isStrOf_shape (x:=x) (v:=v) h
  exact .inr ⟨x,t,rfl,e⟩
theorem GZ(i:Int)(t:Tok):vh (.inl i) (.int i t)=true:=by simp[vh,Value.isInt]
theorem G0(x:Str)(t:Tok):vh (.inr x) (.str x t)=true:=by simp[vh,Value.isStrOf]
theorem Jg(a b:Int):decide ((Sum.inl a:Key)=Sum.inl b)=(a==b):=by
 by_cases e:a=b
 ·subst e;simp
 ·have h:¬(Sum.inl a:Key)=Sum.inl b:=λq=>e (Sum.inl.inj q)
  rw[abn h]
  exact(beq_eq_false_iff_ne.mpr e).symm
theorem Jh(a b:Str):decide ((Sum.inr a:Key)=Sum.inr b)=decide (a=b):=by
 by_cases e:a=b
 ·subst e;simp
 ·have h:¬(Sum.inr a:Key)=Sum.inr b:=λq=>e (Sum.inr.inj q)
  rw[abn h,abn e]
theorem Ji(a:Int)(b:Str):decide ((Sum.inl a:Key)=Sum.inr b)=false:=abn (λq=>nomatch q)
theorem Jj(a:Str)(b:Int):decide ((Sum.inr a:Key)=Sum.inl b)=false:=abn (λq=>nomatch q)
def lG(prog:Program)(w:World):PySem.KeyKind prog w Key where
 is:=vh
 hash:=Rh w
 inj:=λv a b ha hb=>by
  rcases cO ha with ⟨i,t,rfl,rfl⟩|⟨x,t,rfl,rfl⟩
  ·rcases cO hb with ⟨j,u,rfl,e⟩|⟨y,u,rfl,e⟩
   ·injection e with e1 _;rw[e1]
   ·exact nomatch e
  ·rcases cO hb with ⟨j,u,rfl,e⟩|⟨y,u,rfl,e⟩
   ·exact nomatch e
   ·injection e with e1 _;rw[e1]
 byValue:=λk v h=>by
  rcases cO h with ⟨i,t,rfl,rfl⟩|⟨x,t,rfl,rfl⟩<;>rfl
 pyHash:=λhv h=>by
  rcases cO hv with ⟨i,t,rfl,rfl⟩|⟨x,t,rfl,rfl⟩
  ·exact wpAny_pyHash_int h
  ·exact wpAny_pyHash_str h
 eqBool:=λhu hv h=>by
  rcases cO hu with ⟨i,t,rfl,rfl⟩|⟨x,t,rfl,rfl⟩
  ·rcases cO hv with ⟨j,u,rfl,rfl⟩|⟨y,u,rfl,rfl⟩
   ·rw[Jg]at h;exact wpAny_eqBool_int h
   ·rw[Ji]at h;exact SeqAt.EqAt.int_str i t y u _ _ _ _ h
  ·rcases cO hv with ⟨j,u,rfl,rfl⟩|⟨y,u,rfl,rfl⟩
   ·rw[Jj]at h;exact SeqAt.EqAt.str_int x t j u _ _ _ _ h
   ·rw[Jh]at h;exact wpAny_eqBool_str h
 «strs» := λk x t v h=>by
  rcases cO h with ⟨i,u,rfl,e⟩|⟨y,u,rfl,e⟩
  ·exact nomatch e
  ·injection e with e1 _
   subst e1
   cases v<;>rfl
theorem CG(prog:Program)(w:World)(i:Int)(t:Tok):(lG prog w).is (.inl i) (.int i t)=true:=GZ i t
theorem CH(prog:Program)(w:World)(x:Str)(t:Tok):(lG prog w).is (.inr x) (.str x t)=true:=G0 x t
inductive V where
 |non|bl (b:Bool)|int (i:Int)|str (x:Str)|IV (b:Array UInt8)|tQ (b:UInt64)|ref (a:Addr)|ty (n:String)
 deriving DecidableEq
def RelV:V->Value->Prop
 | .non,u=>u=Value.none
 | .bl b,u=>u=Value.bool b
 | .int i,u=>∃t,u=Value.int i t
 | .str x,u=>∃t,u=Value.str x t
 | .IV b,u=>∃t,u=Value.bytes b t
 | .tQ b,u=>∃t,u=Value.float b t
 | .ref a,u=>u=Value.ref a
 | .ty n,u=>u=Value.type n
abbrev Vals:List V->List Value->Prop:=Paired RelV
theorem Vals.length{xs:List V}{us:List Value}(r:Vals xs us):xs.length=us.length:=Paired.length r
theorem Vals.get:∀{xs:List V}{us:List Value}{i:Nat}{x:V},Vals xs us->xs[i]?=some x->∃u,us[i]?=some u/\RelV x u
 |_,_,_,_,.nil,e=>by simp at e
 |_,_,0,_,.cons r _,e=>by simp at e;subst e;exact⟨_,rfl,r⟩
 |_,_,i+1,x,.cons _ t,e=>by
  obtain⟨u,h1,h2⟩:=Vals.get (i:=i) (x:=x) t (by simpa using e)
  exact⟨u,by simpa using h1,h2⟩
theorem Vals.set{x:V}{u:Value}(r:RelV x u):∀{xs:List V}{us:List Value}(i:Nat),Vals xs us->Vals (xs.set i x) (us.set i u)
 |_,_,_,.nil=>.nil
 |_,_,0,.cons _ t=>.cons r t
 |_,_,i+1,.cons q t=>.cons q (Vals.set r i t)
theorem Vals.append:∀{xs ys:List V}{us ws:List Value},Vals xs us->Vals ys ws->Vals (xs++ys) (us++ws)
 |_,_,_,_,.nil,s=>s
 |_,_,_,_,.cons r t,s=>.cons r (Vals.append t s)
theorem Vals.take:∀{xs:List V}{us:List Value}(n:Nat),Vals xs us->Vals (xs.take n) (us.take n)
 |_,_,0,_=>.nil
 |_,_,_+1,.nil=>.nil
 |_,_,n+1,.cons r t=>.cons r (Vals.take n t)
theorem Vals.drop:∀{xs:List V}{us:List Value}(n:Nat),Vals xs us->Vals (xs.drop n) (us.drop n)
 |_,_,0,r=>r
 |_,_,_+1,.nil=>.nil
 |_,_,n+1,.cons _ t=>Vals.drop n t
def zd:Option V->Option Value->Prop
 |some v,some u=>RelV v u
 |none,none=>True
 |_,_=>False
def KV{κ:Type}:List (κ×V)->List (κ×Value)->Prop:=Paired λ(p:κ×V)(q:κ×Value)=>p.1=q.1/\RelV p.2 q.2
def kV:Key->V
 | .inl i=>.int i
 | .inr x=>.str x
inductive HO where
 |lst (xs:List V)
 |tup (xs:List V)
 |dK (kvs:List (Key×V))|dT (kvs:List (List Key×V))
 |set (S:Int->Bool) (n:Nat)
 |ins (C dx:Addr) (fs:List (Str×V))
 |own (x:Addr)
 |xd (fs:List (Str×V))
 |met (f x:Addr)
 |U7 (lo hi:Int)
 |Ef (o:Obj) (u:HO)
 |NG (ps:Array Value)
 |ext (φ:Heap->Prop)
abbrev Hp:=Addr->Option HO
def upd(H:Hp)(a:Addr)(o:HO):Hp:=λb=>if b=a then some o else H b
theorem ai{H:Hp}{a:Addr}{o:HO}:upd H a o a=some o:=by unfold upd;rw[abj rfl]
theorem aH{H:Hp}{a b:Addr}{o:HO}(h:b≠a):upd H a o b=H b:=by unfold upd;rw[abb h]
theorem CI{H:Hp}{a b:Addr}{o u:HO}(h:H a=some o)(h':H b=some u)(d:o≠u):a≠b:=by
 intro e;subst e;rw[h]at h';exact d (abx h')
theorem bO{H:Hp}{a b:Addr}{o:HO}(h:H a=some o)(h':H b=none):a≠b:=by
 intro e;subst e;rw[h]at h';cases h'
section
variable(P:Program)(w:World)
def fU(H:Hp)(h:Heap)(a:Addr):HO->Prop
 | .lst xs=>xs.length<=sizeLine/\∃(its:List Value)(n:Nat),Vals xs its/\h.get? a=some {cls:=.type "list",data:=.seq its.toArray n}
 | .tup xs=>xs.length<=sizeLine/\∃its:List Value,Vals xs its/\IsTup h a its.toArray
 | .dK kvs=>kvs.length<=sizeLine/\(a==sysModules)=false/\∃vs,KV kvs vs/\h.DictOf (lG P w) a vs
 | .dT kvs=>kvs.length<=sizeLine/\(a==sysModules)=false/\∃xs:List (List Key×Addr×Value),Paired (λ(p:List Key×V)(q:List Key×Addr×Value)=>p.1=q.1/\H q.2.1=some (.tup (p.1.map kV))/\RelV p.2 q.2.2) kvs xs/\∃o es ep,h.get? a=some o/\o.ExactDict/\o.data=.dict es ep/\es.toList=xs.map (entryOfKey (tupleKind (lG P w)))/\(xs.map (·.1)).Nodup
 | .set S n=>h.SetOf (intKind P w) a S n
 | .ins C dx fs=>H dx=some (.own a)/\fs.length<=1000/\dx≠a/\h.get? a=some (W.instObj C dx)/\∃mA,h.Ns1 dx mA/\(∀f,zd (fs.lookup f) (mA f))/\PySem.Within mA (fs.map (·.1))
 | .own _=>∃o,h.get? a=some o
 | .xd fs=>∃mA,h.Ns1 a mA/\∀f,zd (fs.lookup f) (mA f)
 | .U7 lo hi=>∃t u v,h.get? a=some {cls:=.type "range",data:=.fields #[.int lo t,.int hi u,.int 1 v]}
 | .Ef o u=>h.get? a=some o/\fU H h a u
 | .NG ps=>h.get? a=some {cls:=.none,data:=.fields ps}
 | .met f x=>h.get? a=some (W.methodObj (.ref f) (.ref x))
 | .ext φ=>φ h/\(∃o,h.get? a=some o)/\∀h1 h2:Heap,φ h1->(∀o,h1.get? a=some o->h2.get? a=some o)->φ h2
def tS(H:Hp)(h:Heap):Prop:=∀a o,H a=some o->fU P w H h a o
end
section
variable{P:Program}{w:World}{H H':Hp}{h h':Heap}{a:Addr}{o:HO}
theorem fU.lt(x:fU P w H h a o):a<h.objs.size:=by
 cases o with
 |lst xs=>obtain⟨_,_,_,_,e⟩:=x;exact abu e
 |tup xs=>obtain⟨_,_,_,p⟩:=x;exact p.lt
 |dK kvs=>obtain⟨_,_,_,_,o,_,_,e,_⟩:=x;exact abu e
 |dT kvs=>obtain⟨_,_,_,_,o,_,_,e,_⟩:=x;exact abu e
 |set S n=>obtain⟨o,_,_,_,e,_⟩:=x;exact abu e
 |ins C dx fs=>obtain⟨_,_,_,e,_⟩:=x;exact abu e
 |own y=>obtain⟨_,e⟩:=x;exact abu e
 |xd fs=>obtain⟨_,⟨_,_,_,e,_⟩,_⟩:=x;exact abu e
 |U7 lo hi=>obtain⟨_,_,_,e⟩:=x;exact abu e
 |Ef ob u=>obtain⟨e,_⟩:=x;exact abu e
 |NG ps=>exact abu (show h.get? a=some _ from x)
 |met f y=>exact abu (show h.get? a=some _ from x)
 |ext φ=>obtain⟨_,⟨_,e⟩,_⟩:=x;exact abu e
theorem Paired.Jk{α β:Type}{F G:α->β->Prop}:∀{l₁:List α}{l₂:List β},Paired F l₁ l₂->(∀a b,F a b->G a b)->Paired G l₁ l₂
 |_,_,.nil,_=>.nil
 |_,_,.cons r t,f=>.cons (f _ _ r) (Paired.Jk t f)
theorem fU.stay(x:fU P w H h a o)(k:∀b u,(b=a\/H b=some (.own a))->h.get? b=some u->h'.get? b=some u)(ho:∀b,H b=some (.own a)->H' b=some (.own a))(ht:∀b xs,H b=some (.tup xs)->H' b=some (.tup xs)):fU P w H' h' a o:=by
 induction o with
 |lst xs=>obtain⟨z,its,n,r,e⟩:=x;exact⟨z,its,n,r,k _ _ (.inl rfl) e⟩
 |tup xs=>obtain⟨z,its,r,ob,e,c⟩:=x;exact⟨z,its,r,ob,k _ _ (.inl rfl) e,c⟩
 |dK kvs=>obtain⟨z,y,vs,r,ob,es,ep,e,c⟩:=x;exact⟨z,y,vs,r,ob,es,ep,k _ _ (.inl rfl) e,c⟩
 |dT kvs =>
  obtain⟨z,y,xs,r,ob,es,ep,e,c⟩:=x
  exact⟨z,y,xs,Paired.Jk r λp q z=>⟨z.1,ht _ _ z.2.1,z.2.2⟩,ob,es,ep,k _ _ (.inl rfl) e,c⟩
 |set S n=>obtain⟨ob,es,ep,t,e,c⟩:=x;exact⟨ob,es,ep,t,k _ _ (.inl rfl) e,c⟩
 |ins C dx fs =>
  obtain⟨d,z,ne,e,mA,⟨od,es,ep,e2,c⟩,r⟩:=x
  exact⟨ho _ d,z,ne,k _ _ (.inl rfl) e,mA,⟨od,es,ep,k _ _ (.inr d) e2,c⟩,r⟩
 |own y=>obtain⟨ob,e⟩:=x;exact⟨ob,k _ _ (.inl rfl) e⟩
 |xd fs=>obtain⟨mA,⟨od,es,ep,e,c⟩,r⟩:=x;exact⟨mA,⟨od,es,ep,k _ _ (.inl rfl) e,c⟩,r⟩
 |U7 lo hi=>obtain⟨t,u,v,e⟩:=x;exact⟨t,u,v,k _ _ (.inl rfl) e⟩
 |Ef ob u ih=>obtain⟨e,q⟩:=x;exact⟨k _ _ (.inl rfl) e,ih q⟩
 |NG ps =>
  have e:h.get? a=some {cls:=.none,data:=.fields ps}:=x
  show h'.get? a=some {cls:=.none,data:=.fields ps}
  exact k a _ (.inl rfl) e
 |met f y =>
  have e:h.get? a=some (W.methodObj (.ref f) (.ref y)):=x
  show h'.get? a=some (W.methodObj (.ref f) (.ref y))
  exact k a _ (.inl rfl) e
 |ext φ=>obtain⟨p,⟨o,e⟩,st⟩:=x;exact⟨st _ _ p λo q=>k _ _ (.inl rfl) q,⟨o,k _ _ (.inl rfl) e⟩,st⟩
theorem tS.lt(x:tS P w H h)(e:H a=some o):a<h.objs.size:=(x a o e).lt
theorem tS.fresh(x:tS P w H h)(e:h.objs.size<=a):H a=none:=by
 cases q:H a with
 |none=>rfl
 |some u=>exact absurd (abD (x.lt q) e) (acN _)
theorem tS.kept(x:tS P w H h)(k:∀b u,h.get? b=some u->h'.get? b=some u):tS P w H h':=λa o e =>
 (x a o e).stay (λb u _ q=>k b u q) (λ_ q=>q) λ_ _ q=>q
theorem tS.laid(x:tS P w H h)(k:∀b u,h.get? b=some u->h'.get? b=some u)(hp:h.objs.size<=a)(new:fU P w (upd H a o) h' a o):tS P w (upd H a o) h':=λb u e=>by
 have hn:=x.fresh hp
 by_cases hb:b=a
 ·subst hb;rw[ai]at e;cases e;exact new
 ·rw[aH hb]at e
  exact(x b u e).stay (λc v _ q=>k c v q) (λc q=>by rw[aH (bO q hn)];exact q) λc xs q=>by rw[aH (bO q hn)];exact q
end
def Rd(H:Hp)(a:Addr)(u:HO):Prop:=H a=some u\/∃o,H a=some (.Ef o u)
theorem Rd.ok{P:Program}{w:World}{H:Hp}{h:Heap}{a:Addr}{u:HO}(r:Rd H a u)(x:tS P w H h):fU P w H h a u:=by
 rcases r with r|⟨o,r⟩
 ·exact x a u r
 ·obtain⟨_,q⟩:=x a _ r
  exact q
def U8:Option HO->Prop
 |some (.lst _)=>True
 |some (.dK _)=>True
 |some (.dT _)=>True
 |some (.set _ _)=>True
 |some (.ins _ _ _)=>True
 |some (.ext _)=>True
 |_=>False
section
variable{P:Program}{w:World}{H:Hp}{h h':Heap}{x e:Addr}{o':HO}
theorem tS.write(ok:tS P w H h)(mu:U8 (H x))(he:e=x\/H e=some (.own x))(k:∀b u,b≠e->h.get? b=some u->h'.get? b=some u)(QJ:∃u,h'.get? e=some u)(new:fU P w (upd H x o') h' x o'):tS P w (upd H x o') h':=λb u q=>by
 have Ri:∀c y,H c=some (.own y)->c≠x:=λc y r z=>by subst z;rw[r]at mu;exact mu
 have VP:∀c xs,H c=some (.tup xs)->c≠x:=λc xs r z=>by subst z;rw[r]at mu;exact mu
 by_cases hb:b=x
 ·subst hb;rw[ai]at q;cases q;exact new
 ·rw[aH hb]at q
  by_cases Om:b=e
  ·have q':H b=some (.own x):=by
    rcases he with z|z
    ·exact absurd (Om.trans z) hb
    ·rw[Om];exact z
   rw[q]at q';cases q'
   obtain⟨v,hv⟩:=QJ
   exact⟨v,by rw[Om];exact hv⟩
  ·refine(ok b u q).stay (λc v hc r=>k c v ?_ r) (λc r=>by rw[aH (Ri c b r)];exact r) λc xs r=>by rw[aH (VP c xs r)];exact r
   rcases hc with rfl|hc
   ·exact Om
   ·rintro rfl
    rcases he with z|z
    ·exact Ri c b hc z
    ·rw[hc]at z;cases z;exact hb rfl
end
structure Un(fs ex:List Addr)(H H':Hp)(h h':Heap):Prop where
 keep:∀b o,h.get? b=some o->H b=none->b∉fs->b∉ex->h'.get? b=some o
 slot:∀b o,h.get? b=some o->H b=none->b∈fs->b∉ex->∃sl,h'.get? b=some {o with slots:=sl}
 free:∀b o,h.get? b=some o->H b=none->b∉ex->H' b=none
 there:∀b o,h.get? b=some o->b∉ex->∃o',h'.get? b=some o'
 tups:∀b xs,H b=some (.tup xs)->H' b=some (.tup xs)
 tT:∀b o u,H b=some (.Ef o u)->H' b=some (.Ef o u)
 wk:∀b ps,H b=some (.NG ps)->∃more,H' b=some (.NG (ps++more))
section
variable{fs fs' ex ex':List Addr}{H H1 H2:Hp}{h h1 h2 h':Heap}{a x e:Addr}{o:HO}
theorem Un.any(u:Un fs ex H H1 h h1){b:Addr}{ob:Obj}(q:h.get? b=some ob)(n:H b=none)(hx:b∉ex):∃sl,h1.get? b=some {ob with slots:=sl}:=by
 by_cases hb:b∈fs
 ·exact u.slot b ob q n hb hx
 ·exact⟨ob.slots,u.keep b ob q n hb hx⟩
theorem Un.trans(a:Un fs ex H H1 h h1)(b:Un fs ex H1 H2 h1 h2):Un fs ex H H2 h h2 where
 keep:=λc ob q n hc hx=>b.keep c ob (a.keep c ob q n hc hx) (a.free c ob q n hx) hc hx
 slot:=λc ob q n hc hx=>by
  obtain⟨sl,e1⟩:=a.slot c ob q n hc hx
  obtain⟨VQ,e2⟩:=b.slot c _ e1 (a.free c ob q n hx) hc hx
  exact⟨VQ,e2⟩
 free:=λc ob q n hx=>by
  obtain⟨o',e1⟩:=a.there c ob q hx
  exact b.free c o' e1 (a.free c ob q n hx) hx
 there:=λc ob q hx=>by
  obtain⟨o',e1⟩:=a.there c ob q hx
  exact b.there c o' e1 hx
 tups:=λc xs q=>b.tups c xs (a.tups c xs q)
 tT:=λc ob xs q=>b.tT c ob xs (a.tT c ob xs q)
 wk:=λc ps q=>by
  obtain⟨m1,e1⟩:=a.wk c ps q
  obtain⟨m2,e2⟩:=b.wk c _ e1
  exact⟨m1++m2,by rw[e2,Array.append_assoc]⟩
theorem Un.kept(k:∀b u,h.get? b=some u->h'.get? b=some u):Un fs ex H H h h' :=
 ⟨λb ob q _ _ _=>k b ob q,λb ob q _ _ _=>⟨ob.slots,k b ob q⟩,λ_ _ _ n _=>n,λb ob q _=>⟨ob,k b ob q⟩,λ_ _ q=>q,λ_ _ _ q=>q,λ_ ps q=>⟨#[],by rw[q];simp⟩⟩
theorem Un.refl:Un fs ex H H h h:=Un.kept λ_ _ q=>q
theorem Un.laid(k:∀b u,h.get? b=some u->h'.get? b=some u)(hp:h.objs.size<=a)(hn:H a=none):Un fs ex H (upd H a o) h h' where
 keep:=λb u q _ _ _=>k b u q
 slot:=λb u q _ _ _=>⟨u.slots,k b u q⟩
 free:=λb u q n _=>by rw[aH (abP (abD (abu q) hp))];exact n
 there:=λb u q _=>⟨u,k b u q⟩
 tups:=λb xs q=>by rw[aH (bO q hn)];exact q
 tT:=λb u xs q=>by rw[aH (bO q hn)];exact q
 wk:=λb ps q=>⟨#[],by rw[aH (bO q hn),q];simp⟩
theorem Un.write(mu:U8 (H x))(he:e=x\/H e=some (.own x))(k:∀b u,b≠e->h.get? b=some u->h'.get? b=some u)(QJ:∃u,h'.get? e=some u):Un fs ex H (upd H x o) h h':=by
 have hx:∀b,H b=none->b≠x:=λb n z=>by subst z;rw[n]at mu;exact mu
 have hb:∀b,H b=none->b≠e:=λb n z=>by
  subst z
  rcases he with r|r
  ·exact hx b n r
  ·rw[n]at r;cases r
 have hm:∀b u,H b=some u->¬U8 (some u)->b≠x:=λb u q nm z=>by subst z;rw[q]at mu;exact nm mu
 refine⟨λb u q n _ _=>k b u (hb b n) q,λb u q n _ _=>⟨u.slots,k b u (hb b n) q⟩,λb u q n _=>by rw[aH (hx b n)];exact n,λb u q _=>?_,λb xs q=>by rw[aH (hm b _ q λz=>z)];exact q,λb u xs q=>by rw[aH (hm b _ q λz=>z)];exact q,λb ps q=>⟨#[],by rw[aH (hm b _ q λz=>z),q];simp⟩⟩
 by_cases Om:b=e
 ·subst Om;exact QJ
 ·exact⟨u,k b u Om q⟩
end
def U9(h:Heap)(H:Hp):List Addr:=(List.range h.objs.size).filter λa=>(H a).isSome
def AR(h:Heap)(H:Hp):Heap:=W.hideAll h (U9 h H)
theorem Hf(h:Heap)(H:Hp):(AR h H).objs.size=h.objs.size:=W.hideAll_size _ _
theorem Jl{h:Heap}{H:Hp}{b:Addr}{o:Obj}(e:h.get? b=some o)(n:H b=none):(AR h H).get? b=some o :=
 W.hideAll_get _ e λhm=>by
  have q:(H b).isSome=true:=(List.mem_filter.mp hm).2
  rw[n]at q;simp at q
theorem LK{h:Heap}{H:Hp}{b:Addr}{o:Obj}(e:(AR h H).get? b=some o):h.get? b=some o/\H b=none:=by
 have e':h.get? b=some o:=W.of_hideAll (U9 h H) e
 refine⟨e',?_⟩
 cases q:H b with
 |none=>rfl
 |some x =>
  have hm:b∈U9 h H:=List.mem_filter.mpr ⟨acJ.mpr (abu e'),by simp[q]⟩
  have z:(AR h H).get? b=none:=W.hideAll_none (U9 h H) hm
  rw[z]at e;cases e
def LL(g h:Heap)(L:Addr):List (Addr×Obj):=(List.range h.objs.size).filterMap λa=>if a=L\/(g.get? a).isSome=true then none else (h.get? a).map λo=>(a,o)
def rest(g h:Heap)(L d:Addr):List (Addr×Obj):=(LL g h L).filter λp=>decide (p.1≠d)
structure Mod(K:W.Frag)(mg:Str->Option Value)(base:Heap):Prop where
 D6:K.In base
 glob:base.Ns mainGlobals mg
 blt:∃mb,base.Ns builtinsNs mb/\∀x:Str,x ≠ "__name__"->mb x=bootBuiltins x
 nolimit:base.NoLimit
structure Cx where
 prog:Program
 w:World
 K:W.Frag
 mg:Str->Option Value
 base:Heap
 A:Around
 N:List Str
 s₀:Shared
 H₀:Hp
 env:Env
 outer:List Env
 stack:List Env
 ex:List Addr
 fn:Str->Bool
 calm:Bool
 pn:List (Addr×Obj)
 xe:Value->Shared->Prop
def frs(l:List Env):List Addr:=l.filterMap (·.frame)
abbrev Cx.fs(X:Cx):List Addr:=frs X.outer
def VR(sc:Scope)(x:Str):Prop:=sc.names.lookup x=some .local\/sc.names.lookup x=some .cell\/sc.names.lookup x=some .free
def Loc(sc:Scope)(x:Str):Prop:=sc.names.lookup x=some .local\/sc.names.lookup x=some .cell
def Look(env:Env)(h:Heap)(m:Str->Option Value)(x:Str)(u:Value):Prop :=
 (env.kindOf x=some .local/\m x=some u)\/((env.kindOf x=some .cell\/env.kindOf x=some .free)/\∃c,env.cells.lookup x=some c/\h.IsCell c (some u))
structure Cx.Ok(X:Cx):Prop where
 mod:Mod X.K X.mg X.base
 kind:X.env.scope.kind=.function
 glob:X.env.globals=mainGlobals
 blt:X.env.builtins=builtinsNs
 above:X.s₀.heap.objs.size<=X.env.locals
 inj:∀x y c,X.env.cells.lookup x=some c->X.env.cells.lookup y=some c->x=y
 has:∀x,(X.env.kindOf x=some .cell\/X.env.kindOf x=some .free)->∃c,X.env.cells.lookup x=some c
 Rj:∀x c,X.fn x=true->X.env.cells.lookup x=some c->X.s₀.heap.objs.size<=c
 hd:X.calm=true->X.A.handled=none
 frames:X.A.frames=some X.stack
 stk:X.stack=X.outer\/(X.stack=X.env::X.outer/\X.env.frame=some X.env.locals)
 exf:∀b∈X.ex,b≠X.env.locals/\∀x c,X.env.cells.lookup x=some c->c≠b
 bs:∀b o,X.base.get? b=some o->X.s₀.heap.get? b=some o/\X.H₀ b=none
 IW:X.base.objs.size<=X.s₀.heap.objs.size
 Hg:∀b o,X.base.get? b=some o->b∉X.ex
 LM:∀b∈X.ex,b∉X.fs
 tU:X.s₀.heap.FunFrames X.base X.outer
 NH:∀b∈X.fs,X.H₀ b=none
structure Inv(X:Cx)(pins:List (Addr×Obj))(σ:List (Option V))(H:Hp)(s:Shared):Prop where
 ok:X.Ok
 os:s.os=X.s₀.os
 bare:AllBare s.gens
 base:Un X.fs X.ex X.H₀ H X.s₀.heap s.heap
 loc:∃m,s.heap.Ns X.env.locals m/\∀(i:Nat)(x:Str)(v:V),X.N[i]?=some x->σ[i]?=some (some v)->VR X.env.scope x->∃u,RelV v u/\Look X.env s.heap m x u
 cell:∀x c,X.env.cells.lookup x=some c->∃v,s.heap.IsCell c v
 free:H X.env.locals=none
 mV:∀x c,X.env.cells.lookup x=some c->H c=none
 pin:∀p∈X.pn++pins,s.heap.get? p.1=some p.2/\H p.1=none/\p.1≠X.env.locals/\p.1∉X.fs/\∀v,p.2.data≠.cell v
 hok:tS X.prog X.w H s.heap
 len:σ.length=X.N.length
section
variable{X:Cx}{pins:List (Addr×Obj)}{σ:List (Option V)}{H H':Hp}{s:Shared}{h':Heap}
theorem Cx.Ok.VS(ok:X.Ok){b:Addr}{o:Obj}(e:X.base.get? b=some o):b∉X.fs:=λhb=>by
 have:=(ok.tU.mem hb).1
 rw[e]at this;cases this
theorem Inv.bs(I:Inv X pins σ H s):∀b o,X.base.get? b=some o->s.heap.get? b=some o/\H b=none:=λb o e =>
 ⟨I.base.keep b o (I.ok.bs b o e).1 (I.ok.bs b o e).2 (I.ok.VS e) (I.ok.Hg b o e),I.base.free b o (I.ok.bs b o e).1 (I.ok.bs b o e).2 (I.ok.Hg b o e)⟩
theorem Inv.bk(I:Inv X pins σ H s):∀b o,X.base.get? b=some o->s.heap.get? b=some o:=λb o e=>(I.bs b o e).1
theorem Inv.mod(I:Inv X pins σ H s):Mod X.K X.mg X.base:=I.ok.mod
theorem Inv.tR(I:Inv X pins σ H s):X.K.In s.heap:=I.ok.mod.D6.keeps I.bk
theorem Inv.lt(I:Inv X pins σ H s):X.env.locals<s.heap.objs.size:=let ⟨_,hn,_⟩:=I.loc;hn.lt
theorem Inv.sz(I:Inv X pins σ H s):X.s₀.heap.objs.size<=s.heap.objs.size:=abv I.ok.above (acK I.lt)
theorem Inv.VT(I:Inv X pins σ H s){a:Addr}(h:s.heap.objs.size<=a):a∉X.fs:=λhb=>by
 obtain⟨_,o,ho,_⟩:=I.ok.tU.mem hb
 exact absurd (abD (abu ho) (abv I.sz h)) (acN _)
theorem Inv.Oo(I:Inv X pins σ H s):∀x c,X.env.cells.lookup x=some c->c≠X.env.locals:=λx c e z=>by
 obtain⟨v,o,ho,hd⟩:=I.cell x c e
 obtain⟨m,⟨o',es,ep,ho',hd',_⟩,_⟩:=I.loc
 rw[z,ho']at ho;cases ho;rw[hd']at hd;cases hd
theorem Inv.tU(I:Inv X pins σ H s):s.heap.FunFrames X.base X.outer:=by
 have all:∀(l:List Env),(∀b∈frs l,b∈X.fs)->X.s₀.heap.FunFrames X.base l->s.heap.FunFrames X.base l:=by
  intro l
  induction l with
  |nil=>intro _ _;trivial
  |cons env r ih =>
   intro hs hl
   obtain⟨hk,⟨L,o,hf,hn,ho,hd⟩,hr⟩:=hl
   have hL:L∈X.fs:=hs L (by unfold frs;rw[List.filterMap_cons,hf];exact abl)
   obtain⟨sl,e⟩:=I.base.slot L o ho (I.ok.NH L hL) hL λz=>I.ok.LM L z hL
   exact⟨hk,⟨L,_,hf,hn,e,hd⟩,ih (λb hb=>hs b (by unfold frs;rw[List.filterMap_cons,hf];exact abp _ hb)) hr⟩
 exact all X.outer (λ_ hb=>hb) I.ok.tU
theorem Inv.stack(I:Inv X pins σ H s):s.heap.FunFrames X.base X.stack:=by
 rcases I.ok.stk with e|⟨e,hf⟩
 ·rw[e];exact I.tU
 ·rw[e]
  obtain⟨m,hn,_⟩:=I.loc
  refine .cons (by rw[I.ok.kind];decide) hf hn ?_ I.tU
  exact Heap.get?_none_of_le (abv I.ok.IW I.ok.above)
theorem Inv.qo(I:Inv X pins σ H s):∀b∈frs X.stack,b∈X.env.locals::X.fs:=λb hb=>by
 rcases I.ok.stk with e|⟨e,hf⟩
 ·rw[e]at hb;exact abp _ hb
 ·rw[e]at hb
  unfold frs at hb
  rw[List.filterMap_cons,hf]at hb
  exact hb
theorem Inv.xu(I:Inv X pins σ H s):∀b∈frs X.stack,H b=none:=λb hb=>by
 rcases abt.mp (I.qo b hb) with e|hb
 ·rw[e];exact I.free
 ·obtain⟨_,o,ho,_⟩:=I.ok.tU.mem hb
  exact I.base.free b o ho (I.ok.NH b hb) λz=>I.ok.LM b z hb
theorem Inv.step{g':Array GenState}{t':Nat}{d':Drawn}{ch:List Addr}(I:Inv X pins σ H s)(hch:∀b∈ch,(b∈X.ex\/X.s₀.heap.objs.size<=b)/\b≠X.env.locals/\(∀x c,X.env.cells.lookup x=some c->c≠b)/\∀p∈X.pn++pins,p.1≠b)(keep:∀b o,b≠X.env.locals->b∉X.fs->b∉ch->s.heap.get? b=some o->H b=none->h'.get? b=some o)(slot:∀b o,b≠X.env.locals->b∈X.fs->b∉ch->s.heap.get? b=some o->H b=none->∃sl,h'.get? b=some {o with slots:=sl})(free:∀b o,b∉ch->s.heap.get? b=some o->H b=none->H' b=none)(there:∀b o,b∉ch->s.heap.get? b=some o->∃o',h'.get? b=some o')(tups:∀b xs,H b=some (.tup xs)->H' b=some (.tup xs))(tT:∀b o u,H b=some (.Ef o u)->H' b=some (.Ef o u))(wk:∀b ps,H b=some (.NG ps)->∃more,H' b=some (.NG (ps++more)))(ns:∀m,s.heap.Ns X.env.locals m->h'.Ns X.env.locals m)(hok:tS X.prog X.w H' h')(hg:AllBare g'):Inv X pins σ H' {s with heap:=h',gens:=g',drawn:=d',toks:=t'}:=by
 have Va:∀b o,X.s₀.heap.get? b=some o->b≠X.env.locals:=λb o e=>abP (abD (abu e) I.ok.above)
 have Vb:∀b o,X.s₀.heap.get? b=some o->b∉X.ex->b∉ch:=λb o e hx hb=>by
  rcases(hch b hb).1 with z|z
  ·exact hx z
  ·exact absurd (abD (abu e) z) (acN _)
 have cellK:∀x c,X.env.cells.lookup x=some c->∀v,s.heap.IsCell c v->h'.IsCell c v:=λx c e v ⟨o,ho,hd⟩=>by
  have Lz:c∉ch:=λz=>(hch c z).2.2.1 x c e rfl
  by_cases hc:c∈X.fs
  ·obtain⟨sl,q⟩:=slot c o (I.Oo x c e) hc Lz ho (I.mV x c e)
   exact⟨_,q,hd⟩
  ·exact⟨o,keep c o (I.Oo x c e) hc Lz ho (I.mV x c e),hd⟩
 refine⟨I.ok,I.os,hg,⟨λb o e n hb hx=>?_,λb o e n hb hx=>?_,λb o e n hx=>?_,λb o e hx=>?_,λb xs e=>tups b xs (I.base.tups b xs e),λb o xs e=>tT b o xs (I.base.tT b o xs e),λb ps e=>?_⟩,?_,λx c e=>?_,?_,λx c e=>?_,λp hp=>?_,hok,I.len⟩
 ·exact keep b o (Va b o e) hb (Vb b o e hx) (I.base.keep b o e n hb hx) (I.base.free b o e n hx)
 ·obtain⟨sl,e1⟩:=I.base.slot b o e n hb hx
  obtain⟨VQ,e2⟩:=slot b _ (Va b o e) hb (Vb b o e hx) e1 (I.base.free b o e n hx)
  exact⟨VQ,e2⟩
 ·obtain⟨o',e1⟩:=I.base.there b o e hx
  exact free b o' (Vb b o e hx) e1 (I.base.free b o e n hx)
 ·obtain⟨o',e1⟩:=I.base.there b o e hx
  exact there b o' (Vb b o e hx) e1
 ·obtain⟨m1,e1⟩:=I.base.wk b ps e
  obtain⟨m2,e2⟩:=wk b _ e1
  exact⟨m1++m2,by rw[e2,Array.append_assoc]⟩
 ·obtain⟨m,hn,hl⟩:=I.loc
  refine⟨m,ns m hn,λi x v e1 e2 e3=>?_⟩
  obtain⟨u,r,l⟩:=hl i x v e1 e2 e3
  refine⟨u,r,?_⟩
  rcases l with l|⟨k,c,e,z⟩
  ·exact .inl l
  ·exact .inr ⟨k,c,e,cellK x c e _ z⟩
 ·obtain⟨v,z⟩:=I.cell x c e
  exact⟨v,cellK x c e v z⟩
 ·obtain⟨m,⟨o,_,_,ho,_⟩,_⟩:=I.loc
  exact free _ o (λz=>(hch _ z).2.1 rfl) ho I.free
 ·obtain⟨v,o,ho,hd⟩:=I.cell x c e
  exact free c o (λz=>(hch c z).2.2.1 x c e rfl) ho (I.mV x c e)
 ·obtain⟨e,n,ne,nf,d⟩:=I.pin p hp
  have Lz:p.1∉ch:=λz=>(hch p.1 z).2.2.2 p hp rfl
  exact⟨keep p.1 p.2 ne nf Lz e n,free p.1 p.2 Lz e n,ne,nf,d⟩
theorem Inv.un{t':Nat}(I:Inv X pins σ H s)(u:Un X.fs [] H H' s.heap h')(hok:tS X.prog X.w H' h'):Inv X pins σ H' {s with heap:=h',toks:=t'}:=by
 obtain⟨m,⟨o,es,ep,ho,r⟩,_⟩:=id I.loc
 obtain⟨sl,hL⟩:=u.any ho I.free (by simp)
 exact I.step (g':=s.gens) (d':=s.drawn) (ch:=[]) (λ_ z=>nomatch z) (λb o _ hb _ e n=>u.keep b o e n hb (by simp)) (λb o _ hb _ e n=>u.slot b o e n hb (by simp)) (λb o _ e n=>u.free b o e n (by simp)) (λb o _ e=>u.there b o e (by simp)) u.tups u.tT u.wk (λm' hm=>by
  obtain⟨o',es',VU,ho',r'⟩:=hm
  rw[ho]at ho';cases ho'
  exact⟨_,es',VU,hL,r'⟩) hok I.bare
theorem Inv.call{g':Array GenState}{t':Nat}{d':Drawn}{ch:List Addr}(I:Inv X pins σ H s)(u:Un (frs X.stack) ch H H' s.heap h')(hok:tS X.prog X.w H' h')(hg:AllBare g')(hch:∀b∈ch,(b∈X.ex\/X.s₀.heap.objs.size<=b)/\b≠X.env.locals/\(∀x c,X.env.cells.lookup x=some c->c≠b)/\∀p∈X.pn++pins,p.1≠b):Inv X pins σ H' {s with heap:=h',gens:=g',drawn:=d',toks:=t'}:=by
 obtain⟨m,⟨o,es,ep,ho,r⟩,_⟩:=id I.loc
 obtain⟨sl,hL⟩:=u.any ho I.free λz=>(hch _ z).2.1 rfl
 exact I.step (ch:=ch) hch (λb o hL hb hc e n=>u.keep b o e n (λz=>(abt.mp (I.qo b z)).elim hL hb) hc) (λb o _ _ hc e n=>u.any e n hc) (λb o hc e n=>u.free b o e n hc) (λb o hc e=>u.there b o e hc) u.tups u.tT u.wk (λm' hm=>by
  obtain⟨o',es',VU,ho',r'⟩:=hm
  rw[ho]at ho';cases ho'
  exact⟨_,es',VU,hL,r'⟩) hok hg
theorem Inv.turned{t':Nat}{it:Addr}(I:Inv X pins σ H s)(k:∀b o,b≠it->s.heap.get? b=some o->h'.get? b=some o)(hn:H it=none)(hL:it≠X.env.locals)(h1:it∈X.ex\/X.s₀.heap.objs.size<=it)(h2:∀x c,X.env.cells.lookup x=some c->c≠it)(h3:∀p∈X.pn++pins,p.1≠it):Inv X pins σ H {s with heap:=h',toks:=t'}:=by
 have Rk:∀b u,H b=some u->b≠it:=λb u e z=>by rw[z,hn]at e;cases e
 refine I.step (g':=s.gens) (d':=s.drawn) (ch:=[it]) (λb hb=>?_) (λb o _ _ hc e _=>k b o (λz=>hc (by simp[z])) e) (λb o _ _ hc e _=>⟨o.slots,k b o (λz=>hc (by simp[z])) e⟩) (λ_ _ _ _ n=>n)
  (λb o hc e=>⟨o,k b o (λz=>hc (by simp[z])) e⟩) (λ_ _ e=>e) (λ_ _ _ e=>e) (λb ps e=>⟨#[],by rw[e];simp⟩) (λm hm=>?_) (λb u e=>?_) I.bare
 ·have e:b=it:=by simpa using hb
  subst e
  exact⟨h1,hL,h2,h3⟩
 ·obtain⟨o,es,ep,ho,r⟩:=hm
  exact⟨o,es,ep,k _ o (acu hL) ho,r⟩
 ·refine(I.hok b u e).stay (λc v hc q=>k c v ?_ q) (λ_ q=>q) λ_ _ q=>q
  rcases hc with z|z
  ·rw[z];exact Rk b u e
  ·exact Rk c _ z
theorem Inv.tok(I:Inv X pins σ H s)(t:Nat):Inv X pins σ H {s with toks:=t}:=I.un (h':=s.heap) (t':=t) Un.refl I.hok
theorem Inv.kept{t':Nat}(I:Inv X pins σ H s)(k:∀b u,s.heap.get? b=some u->h'.get? b=some u):Inv X pins σ H {s with heap:=h',toks:=t'}:=I.un (Un.kept k) (I.hok.kept k)
theorem Inv.laid{a:Addr}{o:HO}{t':Nat}(I:Inv X pins σ H s)(k:∀b u,s.heap.get? b=some u->h'.get? b=some u)(hp:s.heap.objs.size<=a)(new:fU X.prog X.w (upd H a o) h' a o):Inv X pins σ (upd H a o) {s with heap:=h',toks:=t'}:=I.un (Un.laid k hp (I.hok.fresh hp)) (I.hok.laid k hp new)
theorem Inv.write{x e:Addr}{o:HO}{t':Nat}(I:Inv X pins σ H s)(mu:U8 (H x))(he:e=x\/H e=some (.own x))(k:∀b u,b≠e->s.heap.get? b=some u->h'.get? b=some u)(QJ:∃u,h'.get? e=some u)(new:fU X.prog X.w (upd H x o) h' x o):Inv X pins σ (upd H x o) {s with heap:=h',toks:=t'}:=I.un (Un.write mu he k QJ) (I.hok.write mu he k QJ new)
theorem Inv.FI{NI:List (Addr×Obj)}(I:Inv X pins σ H s)(h:∀p∈NI,s.heap.get? p.1=some p.2/\H p.1=none/\p.1≠X.env.locals/\p.1∉X.fs/\∀v,p.2.data≠.cell v):Inv X NI σ H s :=
 ⟨I.ok,I.os,I.bare,I.base,I.loc,I.cell,I.free,I.mV,λp hp=>(abG.mp hp).elim (λz=>I.pin p (List.mem_append_left _ z)) (h p),I.hok,I.len⟩
theorem CJ{N:List Str}(hN:N.Nodup){i j:Nat}{x:Str}(a:N[i]?=some x)(b:N[j]?=some x):i=j:=by
 obtain⟨h1,e1⟩:=abd.mp a
 obtain⟨h2,e2⟩:=abd.mp b
 exact(List.getElem_inj hN).mp (e1.trans e2.symm)
theorem tV{M:Model}{A:Around}{E:Value->Shared->Prop}{i:Nat}{x:Str}{v:V}{u:Value}{Q:Unit->Shared->Prop}(I:Inv X pins σ H s)(hN:X.N.Nodup)(hi:X.N[i]?=some x)(hx:Loc X.env.scope x)(r:RelV v u)(h:∀s',Inv X pins (σ.set i (some v)) H s'->(∃a,Heap.SameBut a s.heap s'.heap/\(a=X.env.locals\/X.env.cells.lookup x=some a))->Q () s')(hf:X.fn x=true\/X.env.scope.names.lookup x=some .local:=by first|exact .inl rfl|exact .inr rfl|assumption):wpAny M A (storeName X.env x u) Q E s:=by
 obtain⟨m,hn,hl⟩:=id I.loc
 have hcls:(X.env.scope.kind==.class||(X.env.scope.kind==.module&&X.env.locals != X.env.globals))=false:=by rw[I.ok.kind];rfl
 have Rl:i<σ.length:=by rw[I.len];exact(abd.mp hi).1
 have Oo:=I.Oo
 have tracked:∀{a:Addr}{h':Heap},(∃o,s.heap.get? a=some o/\H a=none)->Heap.SameBut a s.heap h'->tS X.prog X.w H h':=λ{a h'} ha hs b ob e=>by
  obtain⟨_,_,hfree⟩:=ha
  refine(I.hok b ob e).stay (λc w' hc q=>(hs.2 c ?_).trans q) (λ_ q=>q) λ_ _ q=>q
  rintro rfl
  rcases hc with rfl|hc
  ·rw[hfree]at e;cases e
  ·rw[hfree]at hc;cases hc
 rcases hx with hk|hk
 ·refine wpAny_storeName_local hk hn (λh' hn' hs=>?_) hcls
  obtain⟨oL,_,_,hoL,_⟩:=id hn
  refine h _ ⟨I.ok,I.os,I.bare,⟨λb o e n hb hx=>?_,λb o e n hb hx=>?_,I.base.free,λb o e hx=>?_,I.base.tups,I.base.tT,I.base.wk⟩,⟨_,hn',λj y v' e1 e2 e3=>?_⟩,λy c e=>?_,I.free,I.mV,λp hp=>?_,tracked ⟨oL,hoL,I.free⟩ hs,by simpa using I.len⟩ ⟨_,hs,.inl rfl⟩
  ·exact(hs.2 b (abP (abD (abu e) I.ok.above))).trans (I.base.keep b o e n hb hx)
  ·obtain⟨sl,e1⟩:=I.base.slot b o e n hb hx
   exact⟨sl,(hs.2 b (abP (abD (abu e) I.ok.above))).trans e1⟩
  ·obtain⟨o',e1⟩:=I.base.there b o e hx
   exact⟨o',(hs.2 b (abP (abD (abu e) I.ok.above))).trans e1⟩
  ·by_cases hj:j=i
   ·subst hj
    rw[hi]at e1;cases e1
    rw[acB Rl]at e2
    cases e2
    exact⟨u,r,.inl ⟨hk,by simp⟩⟩
   ·rw[List.getElem?_set_ne (acu hj)]at e2
    obtain⟨u',r',q⟩:=hl j y v' e1 e2 e3
    refine⟨u',r',?_⟩
    rcases q with ⟨k,e⟩|⟨k,c,e,z⟩
    ·refine .inl ⟨k,?_⟩
     have:y≠x:=λe=>hj (CJ hN e1 (e▸hi))
     simp[this,e]
    ·exact .inr ⟨k,c,e,z.sameBut hs (Oo y c e)⟩
  ·obtain⟨w',z⟩:=I.cell y c e
   exact⟨w',z.sameBut hs (Oo y c e)⟩
  ·obtain⟨e,n,ne,nf,d⟩:=I.pin p hp
   exact⟨(hs.2 p.1 ne).trans e,n,ne,nf,d⟩
 ·have hfn:X.fn x=true:=by
   rcases hf with z|z
   ·exact z
   ·rw[z]at hk;cases hk
  obtain⟨c,hc⟩:=I.ok.has x (.inl hk)
  obtain⟨w',z⟩:=I.cell x c hc
  refine wpAny_storeName_cell I.ok.kind hk hc z (λh' hc' hs=>?_)
  obtain⟨oc,hoc,VV⟩:=id z
  refine h {s with heap:=h'} ⟨I.ok,I.os,I.bare,⟨λb o e n hb hx=>?_,λb o e n hb hx=>?_,I.base.free,λb o e hx=>?_,I.base.tups,I.base.tT,I.base.wk⟩,⟨m,hn.sameBut hs (acu (Oo x c hc)),λj y v' e1 e2 e3=>?_⟩,λy c' e=>?_,I.free,I.mV,λp hp=>?_,tracked ⟨oc,hoc,I.mV x c hc⟩ hs,by simpa using I.len⟩ ⟨c,hs,.inr hc⟩
  ·exact(hs.2 b (abP (abD (abu e) (I.ok.Rj x c hfn hc)))).trans (I.base.keep b o e n hb hx)
  ·obtain⟨sl,e1⟩:=I.base.slot b o e n hb hx
   exact⟨sl,(hs.2 b (abP (abD (abu e) (I.ok.Rj x c hfn hc)))).trans e1⟩
  ·obtain⟨o',e1⟩:=I.base.there b o e hx
   exact⟨o',(hs.2 b (abP (abD (abu e) (I.ok.Rj x c hfn hc)))).trans e1⟩
  ·by_cases hj:j=i
   ·subst hj
    rw[hi]at e1;cases e1
    rw[acB Rl]at e2
    cases e2
    exact⟨u,r,.inr ⟨.inl hk,c,hc,hc'⟩⟩
   ·rw[List.getElem?_set_ne (acu hj)]at e2
    obtain⟨u',r',q⟩:=hl j y v' e1 e2 e3
    refine⟨u',r',?_⟩
    rcases q with q|⟨k,c',e,z'⟩
    ·exact .inl q
    ·refine .inr ⟨k,c',e,z'.sameBut hs ?_⟩
     rintro rfl
     exact hj (CJ hN e1 (I.ok.inj _ _ _ e hc▸hi))
  ·by_cases hcc:c'=c
   ·subst hcc;exact⟨_,hc'⟩
   ·obtain⟨w2,z2⟩:=I.cell y c' e
    exact⟨w2,z2.sameBut hs hcc⟩
  ·obtain⟨e,n,ne,nf,d⟩:=I.pin p hp
   refine⟨(hs.2 p.1 ?_).trans e,n,ne,nf,d⟩
   intro q
   rw[q,hoc]at e
   have q':oc=p.2:=abx e
   exact d w' (by rw[←q'];exact VV)
theorem CK{M:Model}{A:Around}{E:Value->Shared->Prop}{i:Nat}{x:Str}{v:V}{u:Value}{Q:Unit->Shared->Prop}(I:Inv X pins σ H s)(hN:X.N.Nodup)(hi:X.N[i]?=some x)(hx:Loc X.env.scope x)(r:RelV v u)(h:∀s',Inv X pins (σ.set i (some v)) H s'->Q () s')(hf:X.fn x=true\/X.env.scope.names.lookup x=some .local:=by first|exact .inl rfl|exact .inr rfl|assumption):wpAny M A (storeName X.env x u) Q E s :=
 tV I hN hi hx r (λs' I' _=>h s' I') hf
theorem Inv.NJ{s':Shared}{ch:List Addr}(I:Inv X pins σ H s)(ho:s'.os=s.os)(u:Un (frs X.stack) ch H H' s.heap s'.heap)(hok:tS X.prog X.w H' s'.heap)(hg:AllBare s'.gens)(hch:∀b∈ch,(b∈X.ex\/X.s₀.heap.objs.size<=b)/\b≠X.env.locals/\(∀x c,X.env.cells.lookup x=some c->c≠b)/\∀p∈X.pn++pins,p.1≠b):Inv X pins σ H' s':=by
 obtain⟨h',g',d',t',o'⟩:=s'
 have e:o'=s.os:=ho
 subst e
 exact I.call (g':=g') (t':=t') (d':=d') u hok hg hch
end
abbrev XK:=Value->Option Addr->Hp->Prop
abbrev St:=List (Option V)
abbrev VK:=V->Hp->Prop
abbrev TE:=St->Hp->VK->Prop
abbrev TT:=St->Hp->(Bool->Hp->Prop)->Prop
abbrev TA:=St->Hp->(List V->Hp->Prop)->Prop
structure Ends where
 nx:St->Hp->Prop
 rt:VK
 bk:St->Hp->Prop:=λ_ _=>False
 ct:St->Hp->Prop:=λ_ _=>False
abbrev TS:=Ends->St->Hp->Prop
def EP(X:Cx)(pins:List (Addr×Obj))(σ:St)(Q:VK)(u:Value)(s':Shared):Prop:=∃v H',Inv X pins σ H' s'/\RelV v u/\Q v H'
def TP(X:Cx)(pins:List (Addr×Obj))(σ:St)(Q:Bool->Hp->Prop)(b:Bool)(s':Shared):Prop:=∃H',Inv X pins σ H' s'/\Q b H'
def AP(X:Cx)(pins:List (Addr×Obj))(σ:St)(Q:List V->Hp->Prop)(us:List Value)(s':Shared):Prop:=∃vs H',Inv X pins σ H' s'/\Vals vs us/\Q vs H'
def SP(X:Cx)(pins:List (Addr×Obj))(D:Ends)(f:Flow)(s':Shared):Prop :=
 match f with
 | .next=>∃σ' H',Inv X pins σ' H' s'/\D.nx σ' H'
 | .brk=>∃σ' H',Inv X pins σ' H' s'/\D.bk σ' H'
 | .cont=>∃σ' H',Inv X pins σ' H' s'/\D.ct σ' H'
 | .ret u=>∃v σ' H',Inv X pins σ' H' s'/\RelV v u/\D.rt v H'
def PE(X:Cx)(e:Expr)(t:TE):Prop :=
 ∀(pins:List (Addr×Obj))(s:Shared)(σ:St)(H:Hp)(Q:VK),Inv X pins σ H s->t σ H Q->wpAny 'f' X.A (eval e X.env) (EP X pins σ Q) X.xe s
def PT(X:Cx)(e:Expr)(t:TT):Prop :=
 ∀(pins:List (Addr×Obj))(s:Shared)(σ:St)(H:Hp)(Q:Bool->Hp->Prop),Inv X pins σ H s->t σ H Q->wpAny 'f' X.A (isTrue e X.env (eval e X.env)) (TP X pins σ Q) X.xe s
def PW(X:Cx)(e:Expr)(t:TT):Prop :=
 ∀(whole:Sem Value)(pins:List (Addr×Obj))(s:Shared)(σ:St)(H:Hp)(Q:Bool->Hp->Prop),Inv X pins σ H s->t σ H Q->wpAny 'f' X.A (isTrue e X.env whole) (TP X pins σ Q) X.xe s
theorem PW.pt{X:Cx}{e:Expr}{t:TT}(h:PW X e t):PT X e t:=h _
def PA(X:Cx)(es:List Expr)(t:TA):Prop :=
 ∀(pos:Pos)(pins:List (Addr×Obj))(s:Shared)(σ:St)(H:Hp)(Q:List V->Hp->Prop),Inv X pins σ H s->t σ H Q->wpAny 'f' X.A (spliced (backTo pos (starEach es X.env))) (AP X pins σ Q) X.xe s
def PS(X:Cx)(st:Stmt)(t:TS):Prop :=
 ∀(pins:List (Addr×Obj))(s:Shared)(σ:St)(H:Hp)(D:Ends),Inv X pins σ H s->t D σ H->wpAny 'f' X.A (exec st X.env) (SP X pins D) X.xe s
def FJ(X:Cx)(st:List Stmt)(t:TS):Prop :=
 ∀(pins:List (Addr×Obj))(s:Shared)(σ:St)(H:Hp)(D:Ends),Inv X pins σ H s->t D σ H->wpAny 'f' X.A (execs st X.env) (SP X pins D) X.xe s
theorem dJ{α:Type}{t:Sem α}{Q Q':α->Shared->Prop}{M:Model}{A:Around}{E:Value->Shared->Prop}{s:Shared}(h:wpAny M A t Q E s)(hQ:∀a s,Q a s->Q' a s):wpAny M A t Q' E s:=acp h hQ λ_ _ x=>x
section
variable{X:Cx}
def LN(i:Nat):TE:=λσ H Q=>∃v,σ[i]?=some (some v)/\Q v H
def tC(v:V):TE:=λ_ H Q=>Q v H
theorem Oq{i:Nat}{x:Str}{pos:Pos}(hN:X.N[i]?=some x)(hv:VR X.env.scope x)(hd:(x==("__debug__":Str))=false:=by decide)(hcd:(x==("__classdict__":Str))=false:=by decide):PE X (.Name x pos) (LN i):=by
 intro pins s σ H Q I h
 obtain⟨v,e,h⟩:=h
 obtain⟨m,hn,hl⟩:=I.loc
 obtain⟨u,r,l⟩:=hl i x v hN e hv
 have fin:EP X pins σ Q u s:=⟨v,H,I,r,h⟩
 rcases l with ⟨hk,hm⟩|⟨hk,c,hc,hcell⟩
 ·exact wpAny_Name (wpAny_loadName_local I.ok.kind hk hn hm fin) hd
 ·rcases hk with hk|hk
  ·exact wpAny_Name (wpAny_loadName_cell I.ok.kind hk hc hcell fin) hd
  ·exact wpAny_Name (wpAny_loadName_free I.ok.kind hk hc hcell fin hcd) hd
theorem au{i j pos}:PE X (.Constant (.int i) j pos) (tC (.int i)):=λ_ _ _ H _ I h=>wpAny_Constant_int ⟨.int i,H,I.tok _,⟨_,rfl⟩,h⟩
theorem iV{b j pos}:PE X (.Constant (.bool b) j pos) (tC (.bl b)):=λ_ _ _ H _ I h=>Constant_bool ⟨.bl b,H,I,rfl,h⟩
theorem gw{j pos}:PE X (.Constant .none j pos) (tC .non):=λ_ _ _ H _ I h=>Constant_none ⟨.non,H,I,rfl,h⟩
theorem az{x j pos}:PE X (.Constant (.str x) j pos) (tC (.str x)):=λ_ _ _ H _ I h=>Calls.Constant_str ⟨.str x,H,I.tok _,⟨_,rfl⟩,h⟩
def Gl(X:Cx)(x:Str):Prop:=X.env.kindOf x=some .globalImplicit
theorem xw{E:Value->Shared->Prop}{pins:List (Addr×Obj)}{s:Shared}{σ:St}{H:Hp}{x:Str}{u:Value}{pos:Pos}{Q:Value->Shared->Prop}(I:Inv X pins σ H s)(hg:Gl X x)(hm:X.mg x=some u)(h:Q u s)(hd:(x==("__debug__":Str))=false:=by decide):wpAny 'f' X.A (eval (.Name x pos) X.env) Q E s :=
 Calls.Name_function_global I.ok.kind hg (Calls.loadGlobal_global (by rw[I.ok.glob];exact I.mod.glob.keeps I.bk) hm h) hd
theorem ko{E:Value->Shared->Prop}{pins:List (Addr×Obj)}{s:Shared}{σ:St}{H:Hp}{x:Str}{u:Value}{pos:Pos}{Q:Value->Shared->Prop}(I:Inv X pins σ H s)(hg:Gl X x)(hm:X.mg x=none)(hv:bootBuiltins x=some u)(h:Q u s)(hn:x ≠ "__name__":=by decide)(hd:(x==("__debug__":Str))=false:=by decide):wpAny 'f' X.A (eval (.Name x pos) X.env) Q E s:=by
 obtain⟨mb,h1,h2⟩:=I.mod.blt
 exact Calls.Name_function_global I.ok.kind hg (Calls.loadGlobal_builtin (by rw[I.ok.glob];exact I.mod.glob.keeps I.bk) hm (by rw[I.ok.blt];exact h1.keeps I.bk) ((h2 x hn).trans hv) h) hd
theorem AS{x:Str}{v:V}{u:Value}{pos:Pos}(hg:Gl X x)(hm:X.mg x=some u)(r:RelV v u)(hd:(x==("__debug__":Str))=false:=by decide):PE X (.Name x pos) (tC v) :=
 λ_ _ _ H _ I h=>xw I hg hm ⟨v,H,I,r,h⟩ hd
theorem LO{x:Str}{v:V}{u:Value}{pos:Pos}(hg:Gl X x)(hm:X.mg x=none)(hv:bootBuiltins x=some u)(r:RelV v u)(hn:x ≠ "__name__":=by decide)(hd:(x==("__debug__":Str))=false:=by decide):PE X (.Name x pos) (tC v) :=
 λ_ _ _ H _ I h=>ko I hg hm hv ⟨v,H,I,r,h⟩ hn hd
variable{a b:Expr}{ta tb:TE}{pos:Pos}
def tB(t:TE):TT:=λσ H Q=>t σ H λx H1=>∃c,x=.bl c/\Q c H1
theorem bT{e:Expr}{t:TE}(h:PE X e t)(he:∀whole,isTrue e X.env whole=(do let v ←whole;standAt e.pos;holding [v] (truthy v)):=by intro _;rfl):PT X e (tB t):=by
 intro pins s σ H Q I hw
 refine isTrue_plain (dJ (h pins s σ H _ I hw) λv s1 ⟨x,H1,I1,r1,q1⟩=>?_) (he _)
 obtain⟨d,rfl,q⟩:=q1
 cases r1
 exact wpAny_truthy_bool ⟨H1,I1,q⟩
variable{tA Vc:TT}{rest:List Expr}
def VW(t u:TT):TT:=λσ H Q=>t σ H λc H1=>if c=true then u σ H1 Q else Q false H1
def tOr(t u:TT):TT:=λσ H Q=>t σ H λc H1=>if c=true then Q true H1 else u σ H1 Q
def VX(t:TT):TT:=λσ H Q=>t σ H λc H1=>Q (!c) H1
theorem cj(ha:PT X a tA):PW X (.BoolOp .And [a] pos) tA:=by
 intro wh pins s σ H Q I h
 refine isTrue_and (dJ (ha pins s σ H Q I h) λc s1 e=>?_)
 cases c with
 |true=>exact isTrue_and_nil e
 |false=>exact e
theorem gG(ha:PT X a tA):PW X (.BoolOp .Or [a] pos) tA:=by
 intro wh pins s σ H Q I h
 refine isTrue_or (dJ (ha pins s σ H Q I h) λc s1 e=>?_)
 cases c with
 |false=>exact isTrue_or_nil e
 |true=>exact e
theorem cI(ha:PT X a tA)(hb:PW X (.BoolOp .And (b::rest) pos) Vc):PW X (.BoolOp .And (a::b::rest) pos) (VW tA Vc):=by
 intro wh pins s σ H Q I h
 refine isTrue_and (dJ (ha pins s σ H _ I h) λc s1 ⟨H1,I1,q1⟩=>?_)
 cases c with
 |true=>exact hb wh pins s1 σ H1 Q I1 q1
 |false=>exact⟨H1,I1,q1⟩
theorem ia(ha:PT X a tA)(hb:PW X (.BoolOp .Or (b::rest) pos) Vc):PW X (.BoolOp .Or (a::b::rest) pos) (tOr tA Vc):=by
 intro wh pins s σ H Q I h
 refine isTrue_or (dJ (ha pins s σ H _ I h) λc s1 ⟨H1,I1,q1⟩=>?_)
 cases c with
 |true=>exact⟨H1,I1,q1⟩
 |false=>exact hb wh pins s1 σ H1 Q I1 q1
theorem dm(ha:PT X a tA):PT X (.UnaryOp .Not a pos) (VX tA):=by
 intro pins s σ H Q I h
 exact isTrue_not (ha pins s σ H (λc H1=>Q (!c) H1) I h)
def Rm(ta tb:TE):TE:=λσ H Q=>ta σ H λx H1=>∃c,x=.bl c/\if c=true then tb σ H1 Q else Q (.bl false) H1
def VY(ta tb:TE):TE:=λσ H Q=>ta σ H λx H1=>∃c,x=.bl c/\if c=true then Q (.bl true) H1 else tb σ H1 Q
def Rn(ta:TE):TE:=λσ H Q=>ta σ H λx H1=>∃c,x=.bl c/\Q (.bl (!c)) H1
theorem xJ{op}{t:TE}(h:PE X a t):PE X (.BoolOp op [a] pos) t:=λpins s σ H Q I hw=>BoolOp_one (h pins s σ H Q I hw)
theorem xK(ha:PE X a ta)(hb:PE X (.BoolOp .And (b::rest) pos) tb):PE X (.BoolOp .And (a::b::rest) pos) (Rm ta tb):=by
 intro pins s σ H Q I h
 refine BoolOp_and (dJ (ha pins s σ H _ I h) λv s1 ⟨x,H1,I1,r1,q1⟩=>?_)
 obtain⟨c,rfl,q1⟩:=q1
 cases r1
 refine wpAny_truthy_bool ?_
 cases c with
 |true=>exact hb pins s1 σ H1 Q I1 q1
 |false=>exact⟨.bl false,H1,I1,rfl,q1⟩
theorem Ro(ha:PE X a ta)(hb:PE X (.BoolOp .Or (b::rest) pos) tb):PE X (.BoolOp .Or (a::b::rest) pos) (VY ta tb):=by
 intro pins s σ H Q I h
 refine BoolOp_or (dJ (ha pins s σ H _ I h) λv s1 ⟨x,H1,I1,r1,q1⟩=>?_)
 obtain⟨c,rfl,q1⟩:=q1
 cases r1
 refine wpAny_truthy_bool ?_
 cases c with
 |false=>exact hb pins s1 σ H1 Q I1 q1
 |true=>exact⟨.bl true,H1,I1,rfl,q1⟩
theorem Eg(ha:PE X a ta):PE X (.UnaryOp .Not a pos) (Rn ta):=by
 intro pins s σ H Q I h
 refine UnaryOp_ (dJ (ha pins s σ H _ I h) λv s1 ⟨x,H1,I1,r1,q1⟩=>?_)
 obtain⟨c,rfl,q1⟩:=q1
 cases r1
 exact not_of (wpAny_truthy_bool ⟨.bl (!c),H1,I1,rfl,q1⟩)
def tIf(t:TT)(ta tb:TE):TE:=λσ H Q=>t σ H λc H1=>if c=true then ta σ H1 Q else tb σ H1 Q
theorem xM{c:Expr}(hc:PT X c tA)(ha:PE X a ta)(hb:PE X b tb):PE X (.IfExp c a b pos) (tIf tA ta tb):=by
 intro pins s σ H Q I h
 refine wpAny_IfExp (dJ (hc pins s σ H _ I h) λd s1 ⟨H1,I1,q1⟩=>?_)
 cases d with
 |true=>exact ha pins s1 σ H1 Q I1 q1
 |false=>exact hb pins s1 σ H1 Q I1 q1
end
def aN(K:W.Frag)(H:Hp)(a:Addr)(xs:List V):Prop :=
 Rd H a (.lst xs)\/
  ∃(o:Obj)(its:Array Value)(n:Nat),K.lookup a=some o/\o.cls=.type "list"/\o.dict=none/\o.data=.seq its n/\its.size<=sizeLine/\Vals xs its.toList
def bD(K:W.Frag)(H:Hp)(a:Addr)(xs:List V):Prop :=
 Rd H a (.tup xs)\/
  ∃(o:Obj)(its:Array Value)(n:Nat),K.lookup a=some o/\o.cls=.type "tuple"/\o.data=.seq its n/\its.size<=sizeLine/\Vals xs its.toList
def Rp:Value->Option V
 | .none=>some .non
 | .bool b=>some (.bl b)
 | .int i _=>some (.int i)
 | .str x _=>some (.str x)
 | .bytes b _=>some (.IV b)
 | .float b _=>some (.tQ b)
 | .ref a=>some (.ref a)
 | .type n=>some (.ty n)
 |_=>none
theorem RelV.abs{x:V}{u:Value}(r:RelV x u):Rp u=some x:=by
 cases x with
 |non=>cases r;rfl
 |bl _=>cases r;rfl
 |int _=>obtain⟨t,rfl⟩:=r;rfl
 |str _=>obtain⟨t,rfl⟩:=r;rfl
 |IV _=>obtain⟨t,rfl⟩:=r;rfl
 |tQ _=>obtain⟨t,rfl⟩:=r;rfl
 |ref _=>cases r;rfl
 |ty _=>cases r;rfl
theorem RelV.inj{x y:V}{u:Value}(r:RelV x u)(q:RelV y u):x=y:=abx (r.abs.symm.trans q.abs)
theorem Vals.inj:∀{xs ys:List V}{us:List Value},Vals xs us->Vals ys us->xs=ys
 |_,_,_,.nil,.nil=>rfl
 |_,_,_,.cons r t,.cons r' t'=>by rw[r.inj r',Vals.inj t t']
section
variable{X:Cx}{pins:List (Addr×Obj)}{σ:St}{H:Hp}{s:Shared}{a:Addr}{xs ys:List V}
theorem aN.of{K:W.Frag}(h:H a=some (.lst xs)):aN K H a xs:=.inl (.inl h)
theorem bD.of{K:W.Frag}(h:H a=some (.tup xs)):bD K H a xs:=.inl (.inl h)
theorem Inv.list(I:Inv X pins σ H s)(h:aN X.K H a xs):∃its:List Value,Vals xs its/\PlainL s.heap a its.toArray/\xs.length<=sizeLine:=by
 rcases h with h|⟨o,its,n,hk,hc,hd,hs,hz,r⟩
 ·obtain⟨z,its,n,r,e⟩:=h.ok I.hok
  exact⟨its,r,⟨_,n,e,O,O,O⟩,z⟩
 ·refine⟨its.toList,r,⟨o,n,I.tR a o hk,hc,hd,by simpa using hs⟩,?_⟩
  have e:=r.length
  simp only[abA]at e
  omega
theorem Inv.tuple(I:Inv X pins σ H s)(h:bD X.K H a xs):∃its:List Value,Vals xs its/\IsTup s.heap a its.toArray/\xs.length<=sizeLine:=by
 rcases h with h|⟨o,its,n,hk,hc,hs,hz,r⟩
 ·obtain⟨z,its,r,p⟩:=h.ok I.hok
  exact⟨its,r,p,z⟩
 ·refine⟨its.toList,r,⟨o,I.tR a o hk,hc,n,by simpa using hs⟩,?_⟩
  have e:=r.length
  simp only[abA]at e
  omega
theorem Inv.qP(I:Inv X pins σ H s)(h:aN X.K H a xs)(h':aN X.K H a ys):xs=ys:=by
 obtain⟨its,r,⟨o,n,e,_,_,d⟩,_⟩:=I.list h
 obtain⟨its',r',⟨o',n',e',_,_,d'⟩,_⟩:=I.list h'
 rw[e]at e';cases e'
 rw[d]at d'
 injection d' with d1 _
 have:its=its':=by simpa using congrArg Array.toList d1
 subst this
 exact r.inj r'
theorem Inv.Hh(I:Inv X pins σ H s)(h:bD X.K H a xs)(h':bD X.K H a ys):xs=ys:=by
 obtain⟨its,r,⟨o,e,_,n,d⟩,_⟩:=I.tuple h
 obtain⟨its',r',⟨o',e',_,n',d'⟩,_⟩:=I.tuple h'
 rw[e]at e';cases e'
 rw[d]at d'
 injection d' with d1 _
 have:its=its':=by simpa using congrArg Array.toList d1
 subst this
 exact r.inj r'
end
abbrev Cx.ze(X:Cx)(E:Value->Shared->Prop):Cx:={X with xe:=E}
abbrev Cx.QK(X:Cx):Cx:=X.ze λ_ _=>False
theorem Cx.Ok.ze{X:Cx}(ok:X.Ok)(E:Value->Shared->Prop):(X.ze E).Ok :=
 ⟨ok.mod,ok.kind,ok.glob,ok.blt,ok.above,ok.inj,ok.has,ok.Rj,ok.hd,ok.frames,ok.stk,ok.exf,ok.bs,ok.IW,ok.Hg,ok.LM,ok.tU,ok.NH⟩
theorem Cx.Ok.nk{X:Cx}{E:Value->Shared->Prop}(ok:(X.ze E).Ok):X.Ok :=
 ⟨ok.mod,ok.kind,ok.glob,ok.blt,ok.above,ok.inj,ok.has,ok.Rj,ok.hd,ok.frames,ok.stk,ok.exf,ok.bs,ok.IW,ok.Hg,ok.LM,ok.tU,ok.NH⟩
section
variable{X:Cx}{pins:List (Addr×Obj)}{σ:St}{H:Hp}{s:Shared}{E:Value->Shared->Prop}
theorem Inv.ze(I:Inv X pins σ H s)(E:Value->Shared->Prop):Inv (X.ze E) pins σ H s:=⟨I.ok.ze E,I.os,I.bare,I.base,I.loc,I.cell,I.free,I.mV,I.pin,I.hok,I.len⟩
theorem Inv.nk(I:Inv (X.ze E) pins σ H s):Inv X pins σ H s:=⟨I.ok.nk,I.os,I.bare,I.base,I.loc,I.cell,I.free,I.mV,I.pin,I.hok,I.len⟩
theorem SP.nk{D:Ends}{f:Flow}{s':Shared}(h:SP (X.ze E) pins D f s'):SP X pins D f s':=by
 cases f with
 |next=>obtain⟨σ',H',I,q⟩:=h;exact⟨σ',H',I.nk,q⟩
 |brk=>obtain⟨σ',H',I,q⟩:=h;exact⟨σ',H',I.nk,q⟩
 |cont=>obtain⟨σ',H',I,q⟩:=h;exact⟨σ',H',I.nk,q⟩
 |ret u=>obtain⟨v,σ',H',I,r,q⟩:=h;exact⟨v,σ',H',I.nk,r,q⟩
theorem FJ.QK{st:List Stmt}{t:TS}(h:FJ X.QK st t):FJ X st t:=λpins s σ H D I hw =>
 acp (h pins s σ H D (I.ze _) hw) (λ_ _ q=>q.nk) λ_ _ z=>False.elim z
end
section
variable{X:Cx}{st:Stmt}{rest:List Stmt}{t u:TS}{e:Expr}{te:TE}{pos:Pos}
def NK:TS:=λD σ H=>D.nx σ H
def Rq(t u:TS):TS:=λD σ H=>t {D with nx:=u D} σ H
theorem aD:FJ X [] NK:=λ_ _ σ H _ I h=>wpAny_execs_nil ⟨σ,H,I,h⟩
theorem aq(h1:PS X st t)(h2:FJ X rest u):FJ X (st::rest) (Rq t u):=by
 intro pins s σ H D I h
 refine wpAny_execs_cons (dJ (h1 pins s σ H {D with nx:=u D} I h) λf s1 q=>?_)
 cases f with
 |next =>
  obtain⟨σ',H',I',q⟩:=q
  exact h2 pins s1 σ' H' D I' q
 |ret v=>exact q
 |brk=>exact q
 |cont=>exact q
theorem ay(h1:PS X st t):FJ X [st] t:=by
 intro pins s σ H D I h
 refine wpAny_execs_cons (dJ (h1 pins s σ H D I h) λf s1 q=>?_)
 cases f with
 |next=>exact wpAny_execs_nil q
 |ret v=>exact q
 |brk=>exact q
 |cont=>exact q
theorem Inv.quiet{pins:List (Addr×Obj)}{σ:St}{H:Hp}{s:Shared}(I:Inv X pins σ H s):interactive X.env=false:=by simp[interactive,I.ok.kind]
def Rr(te:TE):TS:=λD σ H=>te σ H λ_ H1=>D.nx σ H1
theorem dg(he:PE X e te)(hs:swapsWith e none pos.line X.env=pure false:=by rfl):PS X (.Expr e pos) (Rr te):=by
 intro pins s σ H D I h
 exact wpAny_Expr_any (dJ (he pins s σ H _ I h) λv s1 ⟨x,H1,I1,r1,q1⟩=>⟨σ,H1,I1,q1⟩) I.quiet hs
def VZ(te:TE):TS:=λD σ H=>te σ H D.rt
theorem aC(he:PE X e te):PS X (.Return (some e) pos) (VZ te):=by
 intro pins s σ H D I h
 exact wpAny_Return_some (dJ (he pins s σ H _ I h) λv s1 ⟨x,H1,I1,r1,q1⟩=>⟨x,σ,H1,I1,r1,q1⟩)
def qQ(c:TT)(t u:TS):TS:=λD σ H=>c σ H λb H1=>if b=true then t D σ H1 else u D σ H1
theorem aO{c:Expr}{a b:List Stmt}{tc:TT}(hc:PT X c tc)(ha:FJ X a t)(hb:FJ X b u):PS X (.If c a b pos) (qQ tc t u):=by
 intro pins s σ H D I h
 refine wpAny_If (dJ (hc pins s σ H _ I h) λd s1 ⟨H1,I1,q1⟩=>?_)
 cases d with
 |true=>exact ha pins s1 σ H1 D I1 q1
 |false=>exact hb pins s1 σ H1 D I1 q1
def Ot:TS:=λ_ _ _=>False
theorem nq:PS X st Ot:=λ_ _ _ _ _ _ h=>h.elim
end
abbrev TG:=V->St->Hp->(St->Hp->Prop)->Prop
abbrev NL:=List V->St->Hp->(St->Hp->Prop)->Prop
def PG(X:Cx)(target:Expr)(t:TG):Prop :=
 ∀(pins:List (Addr×Obj))(s:Shared)(σ:St)(H:Hp)(v:V)(u:Value)(Q:St->Hp->Prop),Inv X pins σ H s->RelV v u->t v σ H Q->wpAny 'f' X.A (assign target X.env u) (λ_ s'=>∃σ' H',Inv X pins σ' H' s'/\Q σ' H') X.xe s
def Rt(X:Cx)(ts:List Expr)(t:NL):Prop :=
 ∀(pins:List (Addr×Obj))(s:Shared)(σ:St)(H:Hp)(vs:List V)(us:List Value)(Q:St->Hp->Prop),Inv X pins σ H s->Vals vs us->t vs σ H Q->wpAny 'f' X.A (assignInOrder ((assignEach ts X.env).map (·.2)) us) (λ_ s'=>∃σ' H',Inv X pins σ' H' s'/\Q σ' H') X.xe s
abbrev Ou:=V->V->V->Hp->(Hp->Prop)->Prop
def Ru(X:Cx)(t:Ou):Prop :=
 ∀(pins:List (Addr×Obj))(s:Shared)(σ:St)(H:Hp)(o i v:V)(ov iv u:Value)(Q:Hp->Prop),Inv X pins σ H s->RelV o ov->RelV i iv->RelV v u->t o i v H Q->wpAny 'f' X.A (setItem ov iv u) (λ_ s'=>∃H',Inv X pins σ H' s'/\Q H') X.xe s
section
variable{X:Cx}{pos:Pos}
def bQ(i:Nat):TG:=λv σ H Q=>Q (σ.set i (some v)) H
theorem LP{i:Nat}{x:Str}(hN:X.N.Nodup)(hi:X.N[i]?=some x)(hx:Loc X.env.scope x)(hf:X.fn x=true\/X.env.scope.names.lookup x=some .local:=by first|exact .inl rfl|exact .inr rfl|assumption):PG X (.Name x pos) (bQ i):=by
 intro pins s σ H v u Q I r h
 exact wpAny_assign_Name (CK I hN hi hx r (λs' I'=>⟨_,H,I',h⟩) hf)
def V0:NL:=λvs σ H Q=>vs=[]/\Q σ H
def Rv(t:TG)(u:NL):NL:=λvs σ H Q=>∃v r,vs=v::r/\t v σ H λσ' H'=>u r σ' H' Q
theorem eY:Rt X [] V0:=by
 intro pins s σ H vs us Q I r h
 obtain⟨e,h⟩:=h
 subst e
 cases r
 exact assignInOrder_nil ⟨σ,H,I,h⟩
theorem aS{e:Expr}{es:List Expr}{t:TG}{u:NL}(h1:PG X e t)(h2:Rt X es u)(hs:(assignEach (e::es) X.env).map (·.2)=assign e X.env::(assignEach es X.env).map (·.2):=by rfl):Rt X (e::es) (Rv t u):=by
 intro pins s σ H vs us Q I r h
 obtain⟨v,vr,e1,h⟩:=h
 subst e1
 cases r with
 |cons r rr =>
  rw[hs]
  refine assignInOrder_cons (dJ (h1 pins s σ H _ _ _ I r h) λ_ s1 ⟨σ1,H1,I1,q1⟩=>?_)
  exact h2 pins s1 σ1 H1 _ _ Q I1 rr q1
def Rw(K:W.Frag)(n:Nat)(t:NL):TG:=λv σ H Q=>∃a xs,v=.ref a/\bD K H a xs/\xs.length=n/\t xs σ H Q
theorem Ov{es:List Expr}{k:Nat}{t:NL}{n:Nat}(hc:X.calm=true)(h:Rt X es t)(hn:(assignEach es X.env).length=n:=by rfl)(hst:(assignEach es X.env).findIdx? (·.1)=none:=by rfl):PG X (.Tuple es k pos) (Rw X.K n t):=by
 intro pins s σ H v u Q I r hw
 obtain⟨a,xs,e1,hq,hl,hw⟩:=hw
 subst e1
 cases r
 obtain⟨its,rv,ht,hz⟩:=I.tuple hq
 refine assign_Tuple_tuple (I.ok.hd hc) ht (by simp[hn,←hl,rv.length]) hst λh' hx=>?_
 have I1:Inv X pins σ H {s with heap:=h'}:=I.kept (t':=s.toks) λb o e=>hx b o (abP (abu e)) e
 exact h pins _ σ H xs _ Q I1 (by simpa using rv) hw
def V1(to ti:TE)(t:Ou):TG:=λv σ H Q=>to σ H λo H1=>ti σ H1 λi H2=>t o i v H2 λH3=>Q σ H3
theorem lH{o i:Expr}{to ti:TE}{t:Ou}(ho:PE X o to)(hi:PE X i ti)(hs:Ru X t)(ha:∀v,assign (.Subscript o i pos) X.env v=(do
   let ov ←holding [v] (eval o X.env)
   let iv ←holding [v,ov] (eval i X.env)
   standAt pos
   holding [v,ov,iv] (setItem ov iv v)
   release [v,ov,iv] []):=by intro _;rfl):PG X (.Subscript o i pos) (V1 to ti t):=by
 intro pins s σ H v u Q I r h
 rw[ha]
 refine abe (wpAny_holding (dJ (ho pins s σ H _ I h) λov s1 ⟨x,H1,I1,r1,q1⟩=>?_))
 refine abe (wpAny_holding (dJ (hi pins s1 σ H1 _ I1 q1) λiv s2 ⟨y,H2,I2,r2,q2⟩=>?_))
 refine abe (wpAny_standAt (abe (wpAny_holding (dJ (hs pins s2 σ H2 x y v ov iv u _ I2 r1 r2 r q2) λ_ s3 ⟨H3,I3,q3⟩=>?_))))
 exact wpAny_release ⟨σ,H3,I3,q3⟩
def Jm(te:TE)(g:TG):TS:=λD σ H=>te σ H λx H1=>g x σ H1 D.nx
theorem dU{tg e:Expr}{te:TE}{g:TG}(he:PE X e te)(hg:PG X tg g)(hs:swapsWithSole [tg] e pos.line X.env=pure false:=by rfl)(hw:swappedStores [tg] e X.env=pure none:=by rfl)(h1:(assignEach [tg] X.env).map (·.2)=[assign tg X.env]:=by rfl):PS X (.Assign [tg] e pos) (Jm te g):=by
 intro pins s σ H D I h
 refine wpAny_Assign_stores (dJ (he pins s σ H _ I h) λv s1 ⟨x,H1,I1,r1,q1⟩=>?_) hs hw
 rw[h1]
 exact dJ (hg pins s1 σ H1 x v _ I1 r1 q1) λ_ s2 q=>q
theorem Ow{i:Nat}{x:Str}{e:Expr}{te:TE}{pos':Pos}(hN:X.N.Nodup)(hi:X.N[i]?=some x)(hx:Loc X.env.scope x)(he:PE X e te)(hs:swapsWith e (some (.Name x pos')) pos.line X.env=pure false:=by rfl)(hf:X.fn x=true\/X.env.scope.names.lookup x=some .local:=by first|exact .inl rfl|exact .inr rfl|assumption):PS X (.Assign [.Name x pos'] e pos) (Jm te (bQ i)):=by
 intro pins s σ H D I h
 refine wpAny_Assign_Name (dJ (he pins s σ H _ I h) λv s1 ⟨y,H1,I1,r1,q1⟩=>?_) hs
 exact CK I1 hN hi hx r1 (λs2 I2=>⟨_,H1,I2,q1⟩) hf
end
section
variable{X:Cx}{pos:Pos}
end
structure It where
 go:Nat->Hp->Prop
 LA:Nat->Hp->V->Hp->Prop
 stop:Nat->Hp->Prop
def kU(X:Cx)(pins:List (Addr×Obj))(H:Hp)(b:Addr):Prop :=
 H b=none/\b≠X.env.locals/\b∉X.fs/\(b∈X.ex\/X.s₀.heap.objs.size<=b)/\(∀x c,X.env.cells.lookup x=some c->c≠b)/\∀p∈X.pn++pins,p.1≠b
theorem Inv.wm{X:Cx}{pins:List (Addr×Obj)}{σ:St}{H H':Hp}{s:Shared}{b:Addr}(I:Inv X pins σ H s)(hb:s.heap.objs.size<=b)(hn:H' b=none):kU X pins H' b:=by
 refine⟨hn,acL (abD I.lt hb),I.VT hb,.inr (abv I.sz hb),λx c e z=>?_,λp hp z=>?_⟩
 ·obtain⟨v,q⟩:=I.cell x c e
  exact absurd (abD q.lt (by rw[z];exact hb)) (acN _)
 ·exact absurd (abD (abu (I.pin p hp).1) (by rw[z];exact hb)) (acN _)
structure Turn(P:Program)(w:World)(K:W.Frag)(tg:Expr)(J:It)(fp:List Addr)(it:Addr)(tn:Nat->Heap->Prop):Prop where
 mem:it∈fp
 obj:∀i h,tn i h->∀b∈fp,∃o,h.get? b=some o/\∀v,o.data≠.cell v
 keep:∀i h h',tn i h->(∀b∈fp,∀o,h.get? b=some o->h'.get? b=some o)->tn i h'
 item:∀(X:Cx),X.prog=P->X.w=w->X.K=K->X.calm=true->∀(i:Nat)(pins:List (Addr×Obj))(s:Shared)(σ:St)(H:Hp)(E:Value->Shared->Prop),Inv X pins σ H s->(∀b∈fp,kU X pins H b)->tn i s.heap->J.go i H->wpAny (model P w) X.A (pyNext (.ref it)) (λr s1=>∃u,r=some u/\wpAny (model P w) X.A (letOwnedTupleGo tg (.ref it) u) (λ_ s2=>∃x H',Inv X pins σ H' s2/\RelV x u/\J.LA i H x H'/\tn (i+1) s2.heap/\∀b∈fp,H' b=none) E s1) E s
 done:∀(X:Cx),X.prog=P->X.w=w->X.K=K->X.calm=true->∀(i:Nat)(pins:List (Addr×Obj))(s:Shared)(σ:St)(H:Hp)(E:Value->Shared->Prop),Inv X pins σ H s->(∀b∈fp,kU X pins H b)->tn i s.heap->J.stop i H->wpAny (model P w) X.A (pyNext (.ref it)) (λr s1=>r=none/\Inv X pins σ H s1) E s
 self:∀(A:Around)(i:Nat)(s:Shared)(Q:Value->Shared->Prop)(E:Value->Shared->Prop),tn i s.heap->Q (.ref it) s->wpAny (model P w) A (pyIter (.ref it)) Q E s
abbrev TI:=St->Hp->(It->Hp->Prop)->Prop
def PIE(X:Cx)(pins:List (Addr×Obj))(σ:St)(tg:Expr)(R:It->Hp->Prop)(itv:Value)(s2:Shared):Prop :=
 ∃(it:Addr)(fp:List Addr)(tn:Nat->Heap->Prop)(J:It)(H':Hp),itv=.ref it/\Inv X pins σ H' s2/\Turn X.prog X.w X.K tg J fp it tn/\tn 0 s2.heap/\(∀b∈fp,kU X pins H' b)/\R J H'
def PI(X:Cx)(tg iter:Expr)(wi:TI):Prop :=
 ∀(pins:List (Addr×Obj))(s:Shared)(σ:St)(H:Hp)(R:It->Hp->Prop),Inv X pins σ H s->wi σ H R->wpAny 'f' X.A (eval iter X.env) (λv s1=>wpAny 'f' X.A (pyIter v) (PIE X pins σ tg R) X.xe s1) X.xe s
theorem CL{M:Model}{A:Around}{E:Value->Shared->Prop}{s:Shared}{tg:Expr}{it:Addr}{u:Value}{o:Obj}{n:String}{vs:Array Value}{Q:Unit->Shared->Prop}(ho:s.heap.get? it=some o)(hc:o.cls=.type n)(hd:o.data=.fields vs)(hn:["enumerate","zip","dict_itemiterator","dict_reverseitemiterator","odict_iterator","itertools.zip_longest","itertools.pairwise"].contains n=false)(hQ:Q () s):wpAny M A (letOwnedTupleGo tg (.ref it) u) Q E s:=by
 unfold letOwnedTupleGo
 cases tg<;>first
   |exact abz hQ
   | (cases u<;>first
       |exact abz hQ
       | (refine abe (wpAny_load ho ?_)
          rw[hc,hd]
          show wpAny M A (if (["enumerate","zip","dict_itemiterator","dict_reverseitemiterator","odict_iterator","itertools.zip_longest","itertools.pairwise"].contains n&&vs[0]?==some (rawInt _))=true then _ else _) Q E s
          rw[abb (by intro h;rw[hn,ab0]at h;cases h)]
          exact abz hQ))
def QL(K:W.Frag)(a:Addr):It :=
 ⟨λi H=>∃xs x,aN K H a xs/\xs[i]?=some x,λi H x H'=>H'=H/\∀xs,aN K H a xs->xs[i]?=some x,λi H=>∃xs,aN K H a xs/\xs.length<=i⟩
def Rx(K:W.Frag)(a:Addr):It :=
 ⟨λi H=>∃xs x,bD K H a xs/\xs[i]?=some x,λi H x H'=>H'=H/\∀xs,bD K H a xs->xs[i]?=some x,λi H=>∃xs,bD K H a xs/\xs.length<=i⟩
def NN(lo:Int)(n:Nat):It:=⟨λi _=>i<n,λi H x H'=>H'=H/\x=.int (lo+i),λi _=>n<=i⟩
theorem Hi{P:Program}{w:World}{K:W.Frag}{tg:Expr}(a it:Addr):Turn P w K tg (QL K a) [it] it (λi h=>h.IsListIter it a i) where
 mem:=by simp
 obj:=λi h st b hb=>by
  have e:b=it:=by simpa using hb
  subst e
  obtain⟨o,e,c,d⟩:=st
  exact⟨o,e,λv z=>by rw[d]at z;cases z⟩
 keep:=λi h h' st k=>st.at λo e=>k it (by simp) o e
 item:=by
  intro X hP hw hK hc i pins s σ H E I hf st hg
  subst hP hw hK
  obtain⟨xs,x,hq,hx⟩:=hg
  obtain⟨its,rv,p,hz⟩:=I.list hq
  obtain⟨u,hu,ru⟩:=rv.get hx
  obtain⟨f0,f1,f2,f3,f4,f5⟩:=hf it (by simp)
  refine wpAny_pyNext_list_item st p.isList (x:=u) (by simpa using hu) λh' st' sb=>?_
  have I1:Inv X pins σ H {s with heap:=h'}:=I.turned (t':=s.toks) (λb o hb e=>(sb.2 b hb).trans e) f0 f1 f3 f4 f5
  obtain⟨o,e,c,d⟩:=id st'
  exact⟨u,rfl,CL (s:={s with heap:=h'}) e c d 'c' ⟨x,H,I1,ru,⟨rfl,λys hy=>by rw[I.qP hy hq];exact hx⟩,st',λb hb=>(hf b hb).1⟩⟩
 done:=by
  intro X hP hw hK hc i pins s σ H E I hf st hg
  subst hP hw hK
  obtain⟨xs,hq,hx⟩:=hg
  obtain⟨its,rv,p,hz⟩:=I.list hq
  obtain⟨f0,f1,f2,f3,f4,f5⟩:=hf it (by simp)
  have hl:=rv.length
  exact wpAny_pyNext_list_end (I.ok.hd hc) st p.isList (by simp;omega) λh' eb=>⟨rfl,I.turned (t':=s.toks) (λb o hb e=>eb b o hb e) f0 f1 f3 f4 f5⟩
 self:=λ_ _ _ _ _ st h=>wpAny_pyIter_listiter st h
theorem Eh{P:Program}{w:World}{K:W.Frag}{tg:Expr}(a it:Addr):Turn P w K tg (Rx K a) [it] it (λi h=>h.IsTupleIter it a i) where
 mem:=by simp
 obj:=λi h st b hb=>by
  have e:b=it:=by simpa using hb
  subst e
  obtain⟨o,e,c,d⟩:=st
  exact⟨o,e,λv z=>by rw[d]at z;cases z⟩
 keep:=λi h h' st k=>st.at λo e=>k it (by simp) o e
 item:=by
  intro X hP hw hK hc i pins s σ H E I hf st hg
  subst hP hw hK
  obtain⟨xs,x,hq,hx⟩:=hg
  obtain⟨its,rv,p,hz⟩:=I.tuple hq
  obtain⟨u,hu,ru⟩:=rv.get hx
  obtain⟨f0,f1,f2,f3,f4,f5⟩:=hf it (by simp)
  refine wpAny_pyNext_tuple_item st (show s.heap.IsTuple a its.toArray from p) (x:=u) (by simpa using hu) λh' st' sb=>?_
  have I1:Inv X pins σ H {s with heap:=h'}:=I.turned (t':=s.toks) (λb o hb e=>(sb.2 b hb).trans e) f0 f1 f3 f4 f5
  obtain⟨o,e,c,d⟩:=id st'
  exact⟨u,rfl,CL (s:={s with heap:=h'}) e c d 'c' ⟨x,H,I1,ru,⟨rfl,λys hy=>by rw[I.Hh hy hq];exact hx⟩,st',λb hb=>(hf b hb).1⟩⟩
 done:=by
  intro X hP hw hK hc i pins s σ H E I hf st hg
  subst hP hw hK
  obtain⟨xs,hq,hx⟩:=hg
  obtain⟨its,rv,p,hz⟩:=I.tuple hq
  obtain⟨f0,f1,f2,f3,f4,f5⟩:=hf it (by simp)
  have hl:=rv.length
  exact wpAny_pyNext_tuple_end (I.ok.hd hc) st (show s.heap.IsTuple a its.toArray from p) (by simp;omega) λh' eb=>⟨rfl,I.turned (t':=s.toks) (λb o hb e=>eb b o hb e) f0 f1 f3 f4 f5⟩
 self:=λ_ _ _ _ _ st h=>wpAny_pyIter_tupleiter st h
theorem Ei{P:Program}{w:World}{K:W.Frag}{tg:Expr}(it:Addr)(lo:Int)(n:Nat):Turn P w K tg (NN lo n) [it] it (λi h=>IsRangeIter h it (lo+(i:Nat)*1) ((n:Int)-(i:Nat)) 1) where
 mem:=by simp
 obj:=λi h st b hb=>by
  have e:b=it:=by simpa using hb
  subst e
  exact⟨_,st,λv z=>by
   have z':Data.fields _=Data.cell v:=z
   cases z'⟩
 keep:=λi h h' st k=>k it (by simp) _ st
 item:=by
  intro X hP hw hK hc i pins s σ H E I hf st hg
  subst hP hw hK
  obtain⟨f0,f1,f2,f3,f4,f5⟩:=hf it (by simp)
  have W:=Walks.range (prog:=X.prog) (w:=X.w) (I.ok.hd hc) it lo 1 n
  refine W.item i s _ _ hg st λv h' tk hv st' kk=>?_
  obtain⟨t,rfl⟩:=hv
  have I1:Inv X pins σ H {s with heap:=h',toks:=tk}:=I.turned (λb o hb e=>kk b o (by simpa using hb) e) f0 f1 f3 f4 f5
  refine⟨_,rfl,CL (s:={s with heap:=h',toks:=tk}) (n:="range_iterator") st' rfl rfl 'c' ⟨.int (lo+i),H,I1,⟨t,?_⟩,⟨rfl,rfl⟩,st',λb hb=>(hf b hb).1⟩⟩
  rw[Int.mul_one]
 done:=by
  intro X hP hw hK hc i pins s σ H E I hf st hg
  subst hP hw hK
  obtain⟨f0,f1,f2,f3,f4,f5⟩:=hf it (by simp)
  exact wpAny_pyNext_range_end (I.ok.hd hc) st (by have:n<=i:=hg;omega) λh' eb=>⟨rfl,I.turned (t':=s.toks) (λb o hb e=>eb b o hb e) f0 f1 f3 f4 f5⟩
 self:=λ_ _ _ _ _ st h=>wpAny_pyIter_rangeiter st h
section
variable{X:Cx}{tg:Expr}
def NO(K:W.Frag)(tl:TE):TI:=λσ H R=>tl σ H λx H1=>∃a,x=.ref a/\(∃xs,aN K H1 a xs)/\R (QL K a) H1
def Ry(K:W.Frag)(tl:TE):TI:=λσ H R=>tl σ H λx H1=>∃a,x=.ref a/\(∃xs,bD K H1 a xs)/\R (Rx K a) H1
theorem LQ{l:Expr}{tl:TE}(hl:PE X l tl):PI X tg l (NO X.K tl):=by
 intro pins s σ H R I h
 refine dJ (hl pins s σ H _ I h) λv s1 ⟨x,H1,I1,r1,q1⟩=>?_
 obtain⟨a,e,⟨xs,hq⟩,q⟩:=q1
 subst e
 cases r1
 obtain⟨its,rv,p,hz⟩:=I1.list hq
 refine wpAny_pyIter_list p.isList ?_
 refine⟨s1.heap.objs.size,[s1.heap.objs.size],_,_,H1,rfl,I1.kept (t':=s1.toks) λb o e=>abm _ e,Hi a _,⟨_,abC _ rfl,rfl,rfl⟩,λb hb=>?_,q⟩
 have e:b=s1.heap.objs.size:=by simpa using hb
 subst e
 exact I1.wm (abh _) (I1.hok.fresh (abh _))
theorem Ox{l:Expr}{tl:TE}(hl:PE X l tl):PI X tg l (Ry X.K tl):=by
 intro pins s σ H R I h
 refine dJ (hl pins s σ H _ I h) λv s1 ⟨x,H1,I1,r1,q1⟩=>?_
 obtain⟨a,e,⟨xs,hq⟩,q⟩:=q1
 subst e
 cases r1
 obtain⟨its,rv,p,hz⟩:=I1.tuple hq
 refine wpAny_pyIter_tuple (show s1.heap.IsTuple a its.toArray from p) ?_
 refine⟨s1.heap.objs.size,[s1.heap.objs.size],_,_,H1,rfl,I1.kept (t':=s1.toks) λb o e=>abm _ e,Eh a _,⟨_,abC _ rfl,rfl,rfl⟩,λb hb=>?_,q⟩
 have e:b=s1.heap.objs.size:=by simpa using hb
 subst e
 exact I1.wm (abh _) (I1.hok.fresh (abh _))
theorem Jo{pins:List (Addr×Obj)}{σ:St}{H:Hp}{s:Shared}{R:It->Hp->Prop}{E:Value->Shared->Prop}{lo hi:Int}{t u v:Tok}{tk:Nat}(I:Inv X pins σ H s)(h1 : -(2 ^ 62)<=lo)(h2:lo<2 ^ 62)(h3 : -(2 ^ 62)<=hi)(h4:hi<2 ^ 62)(q:R (NN lo (hi-lo).toNat) H):wpAny 'f' X.A (pyIter (.ref s.heap.objs.size)) (PIE X pins σ tg R) E {s with heap:=s.heap.push {cls:=.type "range",data:=.fields #[.int lo t,.int hi u,.int 1 v]},toks:=tk}:=by
 refine wpAny_pyIter_range (IsRange.new ..) (small_one h1 h2 h3 h4) ?_
 have I1:Inv X pins σ H {s with heap:=s.heap.push {cls:=.type "range",data:=.fields #[.int lo t,.int hi u,.int 1 v]},toks:=tk}:=I.kept λb o e=>abm _ e
 refine⟨(s.heap.push {cls:=.type "range",data:=.fields #[.int lo t,.int hi u,.int 1 v]}).objs.size,[(s.heap.push {cls:=.type "range",data:=.fields #[.int lo t,.int hi u,.int 1 v]}).objs.size],_,_,H,rfl,I1.kept (t':=tk) λb o e=>abm _ e,Ei _ lo (hi-lo).toNat,?_,λb hb=>?_,q⟩
 ·have e1:lo+((0:Nat):Int)*1=lo:=by simp
  have e2:(((hi-lo).toNat:Nat):Int)-((0:Nat):Int)=Builtin.Range.rangeSize lo hi 1:=by rw[rangeSize_one];split<;>omega
  show IsRangeIter _ _ (lo+((0:Nat):Int)*1) ((((hi-lo).toNat:Nat):Int)-((0:Nat):Int)) 1
  rw[e1,e2]
  exact abC _ rfl
 ·have e:b=(s.heap.push {cls:=.type "range",data:=.fields #[.int lo t,.int hi u,.int 1 v]}).objs.size:=by simpa using hb
  subst e
  exact I1.wm (abh _) (I1.hok.fresh (abh _))
def Rz(ta:TA):TI:=λσ H R=>ta σ H λvs H1=>∃j:Int,vs=[.int j]/\-(2 ^ 62)<=j/\j<2 ^ 62/\R (NN 0 j.toNat) H1
theorem fN{a:Expr}{ta:TA}{p pos:Pos}(hg:Gl X "range")(hm:X.mg "range"=none)(ha:PA X [a] ta)(hs:starEach [a] X.env=[(false,eval a X.env)]:=by rfl):PI X tg (.Call (.Name "range" p) [a] [] pos) (Rz ta):=by
 intro pins s σ H R I h
 refine Call_ (ko I hg hm boot_range (ab1 (dJ (ha pos pins s σ H _ I h) λus s1 ⟨vs,H1,I1,r1,q1⟩=>?_) hs rfl))
 obtain⟨j,e,q1,q2,q⟩:=q1
 subst e
 cases r1 with
 |cons r rr =>
  cases rr
  obtain⟨t,rfl⟩:=r
  exact call_range_1 (Jo I1 'b' 'b' q1 q2 (by simpa using q))
def V2(wi:TI)(g:TG)(tb:TS):TS:=λD σ H=>wi σ H λJ H1=>∃W:Nat->Nat->St->Hp->Prop,(∃m,W 0 m σ H1)/\∀i m σ H,W i m σ H->(J.stop i H/\D.nx σ H)\/(J.go i H/\∃N:St->Hp->Prop,(∀σ' H',N σ' H'->∃m',m'<m/\W (i+1) m' σ' H')/\∀x H',J.LA i H x H'->g x σ H' λσ2 H2=>tb {D with nx:=N,ct:=N,bk:=D.nx} σ2 H2)
def tW(fp:List Addr)(h:Heap):List (Addr×Obj):=fp.filterMap λb=>(h.get? b).map λo=>(b,o)
theorem ic{fp:List Addr}{h:Heap}{b:Addr}{o:Obj}(hb:b∈fp)(e:h.get? b=some o):(b,o)∈tW fp h:=List.mem_filterMap.mpr ⟨b,hb,by rw[e];rfl⟩
theorem Hj{fp:List Addr}{h:Heap}{p:Addr×Obj}(hp:p∈tW fp h):p.1∈fp/\h.get? p.1=some p.2:=by
 obtain⟨b,hb,e⟩:=List.mem_filterMap.mp hp
 cases q:h.get? b with
 |none=>rw[q]at e;cases e
 |some o =>
  rw[q]at e
  have e':(b,o)=p:=abx e
  subst e'
  exact⟨hb,q⟩
theorem Inv.pinned{pins:List (Addr×Obj)}{σ:St}{H:Hp}{s:Shared}{fp:List Addr}(I:Inv X pins σ H s)(hf:∀b∈fp,kU X pins H b)(ho:∀b∈fp,∃o,s.heap.get? b=some o/\∀v,o.data≠.cell v):Inv X (pins++tW fp s.heap) σ H s :=
 I.FI λp hp=>(abG.mp hp).elim (λz=>I.pin p (abO _ z)) λz=>by
  obtain⟨hb,e⟩:=Hj z
  obtain⟨f0,f1,f2,_⟩:=hf p.1 hb
  obtain⟨o,e',d⟩:=ho p.1 hb
  rw[e]at e';cases e'
  exact⟨e,f0,f1,f2,d⟩
theorem Inv.nu{pins pl:List (Addr×Obj)}{σ:St}{H:Hp}{s:Shared}(I:Inv X (pins++pl) σ H s):Inv X pins σ H s:=I.FI λp hp=>I.pin p (abO _ (List.mem_append_left _ hp))
theorem gc{iter:Expr}{body:List Stmt}{wi:TI}{g:TG}{tb:TS}{pos:Pos}(hp:PassesOwn 'f' X.A X.env X.xe)(hc:X.calm=true)(hi:PI X tg iter wi)(hg:PG X tg g)(hb:FJ X body tb)(hs:∀x,foldedSetIterable iter X.env x=pure x:=by intro _;rfl):PS X (.For tg iter body [] pos) (V2 wi g tb):=by
 intro pins s σ H D I h
 refine wpAny_For (dJ (hi pins s σ H _ I h) λv s1 h1=>dJ h1 λitv s2 h2=>?_) hs
 obtain⟨it,fp,tn,J,H2,e,I2,T,st2,f2,W,⟨m0,w0⟩,turn⟩:=h2
 subst e
 have xN:∀{H':Hp},(∀b∈fp,H' b=none)->∀b∈fp,kU X pins H' b:=λhn b hb=>⟨hn b hb,(f2 b hb).2⟩
 refine codeAny_forLoop_any (λn s'=>∃i σ' H',Inv X pins σ' H' s'/\tn i s'.heap/\(∀b∈fp,H' b=none)/\W i n σ' H') ?_ m0 ⟨0,σ,H2,I2,st2,λb hb=>(f2 b hb).1,w0⟩
 rintro n s3 ⟨i,σ3,H3,I3,st3,fr3,w3⟩
 rcases turn i n σ3 H3 w3 with ⟨stop,qn⟩|⟨go,N,hN,step⟩
 ·refine wpAny_passesOwn hp (dJ (T.done X rfl rfl rfl hc i pins s3 σ3 H3 X.xe I3 (xN fr3) st3 stop) λr s4 ⟨hr,I4⟩=>?_)
  subst hr
  exact wpAny_execs_nil ⟨σ3,H3,I4,qn⟩
 ·refine wpAny_passesOwn hp (dJ (T.item X rfl rfl rfl hc i pins s3 σ3 H3 X.xe I3 (xN fr3) st3 go) λr s4 ⟨u,hr,h4⟩=>?_)
  subst hr
  refine wpAny_passesOwn hp (dJ h4 λ_ s5 ⟨x,H5,I5,r5,y5,V3,fr5⟩=>?_)
  have I5':=I5.pinned (xN fr5) (T.obj _ _ V3)
  refine wpAny_passesOwn hp (dJ (hg _ s5 σ3 H5 x u _ I5' r5 (step x H5 y5)) λ_ s6 ⟨σ6,H6,I6,q6⟩=>?_)
  refine wpAny_passesOwn hp (dJ (hb _ s6 σ6 H6 _ I6 q6) λf s7 q7=>?_)
  have again:∀{σ7:St}{H7:Hp},Inv X (pins++tW fp s5.heap) σ7 H7 s7->N σ7 H7->∃m,m<n/\∃i σ' H',Inv X pins σ' H' s7/\tn i s7.heap/\(∀b∈fp,H' b=none)/\W i m σ' H':=λ{σ7 H7} I7 n7=>by
   obtain⟨m',hm,w7⟩:=hN σ7 H7 n7
   refine⟨m',hm,i+1,σ7,H7,I7.nu,T.keep _ _ _ V3 λb hb o e=>(I7.pin (b,o) (abO _ (abO _ (ic hb e)))).1,λb hb=>?_,w7⟩
   obtain⟨o,e,d⟩:=T.obj _ _ V3 b hb
   exact(I7.pin (b,o) (abO _ (abO _ (ic hb e)))).2.1
  cases f with
  |next=>obtain⟨σ7,H7,I7,n7⟩:=q7;exact again I7 n7
  |cont=>obtain⟨σ7,H7,I7,n7⟩:=q7;exact again I7 n7
  |brk=>obtain⟨σ7,H7,I7,q7⟩:=q7;exact⟨σ7,H7,I7.nu,q7⟩
  |ret v=>obtain⟨x7,σ7,H7,I7,r7,q7⟩:=q7;exact⟨x7,σ7,H7,I7.nu,r7,q7⟩
end
theorem ny{K:W.Frag}{a:Addr}{xs:List V}{g:TG}{tb:TS}{D:Ends}{σ:St}{H:Hp}(Pv:Nat->St->Hp->Prop)(h0:Pv 0 σ H)(hl:∀i σ H,i<=xs.length->Pv i σ H->aN K H a xs)(hs:∀i x σ H,xs[i]?=some x->Pv i σ H->g x σ H λσ2 H2=>tb {D with nx:=Pv (i+1),ct:=Pv (i+1),bk:=D.nx} σ2 H2)(hd:∀σ H,Pv xs.length σ H->D.nx σ H):∃W:Nat->Nat->St->Hp->Prop,(∃m,W 0 m σ H)/\∀i m σ H,W i m σ H->((QL K a).stop i H/\D.nx σ H)\/((QL K a).go i H/\∃N:St->Hp->Prop,(∀σ' H',N σ' H'->∃m',m'<m/\W (i+1) m' σ' H')/\∀x H',(QL K a).LA i H x H'->g x σ H' λσ2 H2=>tb {D with nx:=N,ct:=N,bk:=D.nx} σ2 H2):=by
 refine⟨λi m σ H=>m=xs.length-i/\i<=xs.length/\Pv i σ H,⟨xs.length,by simp,abW _,h0⟩,?_⟩
 rintro i m σ H ⟨rfl,hi,p⟩
 have q:=hl i σ H hi p
 by_cases hlt:i<xs.length
 ·refine .inr ⟨⟨xs,xs[i],q,by simp[hlt]⟩,Pv (i+1),λσ' H' p'=>⟨xs.length-(i+1),by omega,rfl,hlt,p'⟩,λx H' y=>?_⟩
  obtain⟨e,y⟩:=y
  subst e
  exact hs i x σ _ (y xs q) p
 ·have e:i=xs.length:=by omega
  subst e
  exact .inl ⟨⟨xs,q,abh _⟩,hd σ H p⟩
theorem LR{K:W.Frag}{a:Addr}{xs:List V}{g:TG}{tb:TS}{D:Ends}{σ:St}{H:Hp}(Pv:Nat->St->Hp->Prop)(h0:Pv 0 σ H)(hl:∀i σ H,i<=xs.length->Pv i σ H->bD K H a xs)(hs:∀i x σ H,xs[i]?=some x->Pv i σ H->g x σ H λσ2 H2=>tb {D with nx:=Pv (i+1),ct:=Pv (i+1),bk:=D.nx} σ2 H2)(hd:∀σ H,Pv xs.length σ H->D.nx σ H):∃W:Nat->Nat->St->Hp->Prop,(∃m,W 0 m σ H)/\∀i m σ H,W i m σ H->((Rx K a).stop i H/\D.nx σ H)\/((Rx K a).go i H/\∃N:St->Hp->Prop,(∀σ' H',N σ' H'->∃m',m'<m/\W (i+1) m' σ' H')/\∀x H',(Rx K a).LA i H x H'->g x σ H' λσ2 H2=>tb {D with nx:=N,ct:=N,bk:=D.nx} σ2 H2):=by
 refine⟨λi m σ H=>m=xs.length-i/\i<=xs.length/\Pv i σ H,⟨xs.length,by simp,abW _,h0⟩,?_⟩
 rintro i m σ H ⟨rfl,hi,p⟩
 have q:=hl i σ H hi p
 by_cases hlt:i<xs.length
 ·refine .inr ⟨⟨xs,xs[i],q,by simp[hlt]⟩,Pv (i+1),λσ' H' p'=>⟨xs.length-(i+1),by omega,rfl,hlt,p'⟩,λx H' y=>?_⟩
  obtain⟨e,y⟩:=y
  subst e
  exact hs i x σ _ (y xs q) p
 ·have e:i=xs.length:=by omega
  subst e
  exact .inl ⟨⟨xs,q,abh _⟩,hd σ H p⟩
theorem je{lo:Int}{n:Nat}{g:TG}{tb:TS}{D:Ends}{σ:St}{H:Hp}(Pv:Nat->St->Hp->Prop)(h0:Pv 0 σ H)(hs:∀i σ H,i<n->Pv i σ H->g (.int (lo+i)) σ H λσ2 H2=>tb {D with nx:=Pv (i+1),ct:=Pv (i+1),bk:=D.nx} σ2 H2)(hd:∀σ H,Pv n σ H->D.nx σ H):∃W:Nat->Nat->St->Hp->Prop,(∃m,W 0 m σ H)/\∀i m σ H,W i m σ H->((NN lo n).stop i H/\D.nx σ H)\/((NN lo n).go i H/\∃N:St->Hp->Prop,(∀σ' H',N σ' H'->∃m',m'<m/\W (i+1) m' σ' H')/\∀x H',(NN lo n).LA i H x H'->g x σ H' λσ2 H2=>tb {D with nx:=N,ct:=N,bk:=D.nx} σ2 H2):=by
 refine⟨λi m σ H=>m=n-i/\i<=n/\Pv i σ H,⟨n,by simp,abW _,h0⟩,?_⟩
 rintro i m σ H ⟨rfl,hi,p⟩
 by_cases hlt:i<n
 ·refine .inr ⟨hlt,Pv (i+1),λσ' H' p'=>⟨n-(i+1),by omega,rfl,hlt,p'⟩,λx H' y=>?_⟩
  obtain⟨e,y⟩:=y
  subst e y
  exact hs i σ _ hlt p
 ·have e:i=n:=by omega
  subst e
  exact .inl ⟨abh _,hd σ H p⟩
abbrev R2:=V->V->Hp->VK->Prop
def oY(X:Cx)(f:Value->Value->Sem Value)(r:R2):Prop :=
 ∀(pins:List (Addr×Obj))(s:Shared)(σ:St)(H:Hp)(x y:V)(v u:Value)(Q:VK),Inv X pins σ H s->RelV x v->RelV y u->r x y H Q->wpAny 'f' X.A (f v u) (EP X pins σ Q) X.xe s
def V4(X:Cx)(f:Value->Sem Value)(r:V->Hp->VK->Prop):Prop :=
 ∀(pins:List (Addr×Obj))(s:Shared)(σ:St)(H:Hp)(x:V)(v:Value)(Q:VK),Inv X pins σ H s->RelV x v->r x H Q->wpAny 'f' X.A (f v) (EP X pins σ Q) X.xe s
def fk(X:Cx)(f:Value)(r:List V->Hp->VK->Prop):Prop :=
 ∀(pins:List (Addr×Obj))(s:Shared)(σ:St)(H:Hp)(xs:List V)(us:List Value)(Q:VK),Inv X pins σ H s->Vals xs us->r xs H Q->wpAny 'f' X.A (call f us) (EP X pins σ Q) X.xe s
def LB(r:R2)(ta tb:TE):TE:=λσ H Q=>ta σ H λx H1=>tb σ H1 λy H2=>r x y H2 Q
def tUn(r:V->Hp->VK->Prop)(ta:TE):TE:=λσ H Q=>ta σ H λx H1=>r x H1 Q
def rI(C:Int->Int->Prop)(g:Int->Int->V):R2:=λx y H Q=>∃i j,x=.int i/\y=.int j/\C i j/\Q (g i j) H
def LS(g:Int->Int->V):R2:=λx y H Q=>∃i j,x=.int i/\y=.int j/\Q (g i j) H
def rU(g:Int->V):V->Hp->VK->Prop:=λx H Q=>∃i,x=.int i/\Q (g i) H
section
variable{X:Cx}{a b c:Expr}{ta tb tc:TE}{pos:Pos}
theorem Oz(ha:PE X a ta)(hb:PE X b tb){pins:List (Addr×Obj)}{s:Shared}{σ:St}{H:Hp}{R:V->V->Hp->Prop}(I:Inv X pins σ H s)(h:ta σ H λx H1=>tb σ H1 λy H2=>R x y H2){Q:Value->Shared->Prop}{f:Value->Value->Sem Value}(hf:∀v u s2 x y H2,Inv X pins σ H2 s2->RelV x v->RelV y u->R x y H2->wpAny 'f' X.A (f v u) Q X.xe s2):wpAny 'f' X.A (eval a X.env) (λv s₁=>wpAny 'f' X.A (eval b X.env) (λu s₂=>wpAny 'f' X.A (f v u) Q X.xe s₂) X.xe s₁) X.xe s:=by
 refine dJ (ha pins s σ H _ I h) λv s1 ⟨x,H1,I1,r1,q1⟩=>?_
 refine dJ (hb pins s1 σ H1 _ I1 q1) λu s2 ⟨y,H2,I2,r2,q2⟩=>?_
 exact hf v u s2 x y H2 I2 r1 r2 q2
theorem aF{op:Operator}{r:R2}(ho:oY X (binaryOp op) r)(ha:PE X a ta)(hb:PE X b tb):PE X (.BinOp a op b pos) (LB r ta tb):=by
 intro pins s σ H Q I h
 exact wpAny_BinOp (Oz ha hb I h λv u s2 x y H2 I2 rx ry q=>ho pins s2 σ H2 x y v u Q I2 rx ry q)
theorem vj{op:UnaryOp}{r:V->Hp->VK->Prop}(ho:V4 X (unaryOp op) r)(ha:PE X a ta):PE X (.UnaryOp op a pos) (tUn r ta):=by
 intro pins s σ H Q I h
 exact UnaryOp_ (dJ (ha pins s σ H _ I h) λv s1 ⟨x,H1,I1,r1,q1⟩=>ho pins s1 σ H1 x v Q I1 r1 q1)
theorem Vd{f:Value->Value->Sem Value}{C:Int->Int->Prop}{g:Int->Int->Int}(rule:∀(i j:Int)(t u:Tok)(s:Shared)(Q:Value->Shared->Prop)(E:Value->Shared->Prop),C i j->Q (.int (g i j) s.toks) {s with toks:=s.toks+1}->wpAny 'f' X.A (f (.int i t) (.int j u)) Q E s):oY X f (rI C λi j=>.int (g i j)):=by
 intro pins s σ H x y v u Q I rx ry h
 obtain⟨i,j,rfl,rfl,hc,q⟩:=h
 obtain⟨t,rfl⟩:=rx
 obtain⟨t',rfl⟩:=ry
 exact rule i j t t' s _ _ hc ⟨.int (g i j),H,I.tok _,⟨_,rfl⟩,q⟩
theorem RA{f:Value->Value->Sem Value}{g:Int->Int->Int}(rule:∀(i j:Int)(t u:Tok)(s:Shared)(Q:Value->Shared->Prop)(E:Value->Shared->Prop),Q (.int (g i j) s.toks) {s with toks:=s.toks+1}->wpAny 'f' X.A (f (.int i t) (.int j u)) Q E s):oY X f (LS λi j=>.int (g i j)):=by
 intro pins s σ H x y v u Q I rx ry h
 obtain⟨i,j,rfl,rfl,q⟩:=h
 obtain⟨t,rfl⟩:=rx
 obtain⟨t',rfl⟩:=ry
 exact rule i j t t' s _ _ ⟨.int (g i j),H,I.tok _,⟨_,rfl⟩,q⟩
theorem LU{f:Value->Value->Sem Value}{g:Int->Int->Bool}(rule:∀(i j:Int)(t u:Tok)(s:Shared)(Q:Value->Shared->Prop)(E:Value->Shared->Prop),Q (.bool (g i j)) s->wpAny 'f' X.A (f (.int i t) (.int j u)) Q E s):oY X f (LS λi j=>.bl (g i j)):=by
 intro pins s σ H x y v u Q I rx ry h
 obtain⟨i,j,rfl,rfl,q⟩:=h
 obtain⟨t,rfl⟩:=rx
 obtain⟨t',rfl⟩:=ry
 exact rule i j t t' s _ _ ⟨.bl (g i j),H,I,rfl,q⟩
def V5(i j:Int):Prop:=0<j/\j<1073741824
def RB(i j:Int):Prop:=0<=j/\j<=1000000/\i.natAbs<2 ^ 64
def LV(i j:Int):Prop:=(-(2 ^ 64)<i/\i<2 ^ 64)\/(-(2 ^ 64)<j/\j<2 ^ 64)
theorem LV.ok{i j:Int}(h:LV i j):IntMulOk i j:=by
 rcases h with ⟨h1,h2⟩|⟨h1,h2⟩
 ·exact .of_left (intBits_le_64 h1 h2)
 ·exact .of_right (intBits_le_64 h1 h2)
theorem bV:oY X (binaryOp .Add) (LS λi j=>.int (i+j)):=RA λ_ _ _ _ _ _ _ q=>add_int q
theorem tX:oY X (binaryOp .Sub) (LS λi j=>.int (i-j)):=RA λ_ _ _ _ _ _ _ q=>sub_int q
theorem fm:oY X (binaryOp .Mult) (rI LV λi j=>.int (i*j)):=Vd λ_ _ _ _ _ _ _ hc q=>mul_int q hc.ok
theorem bS:oY X (binaryOp .FloorDiv) (rI V5 λi j=>.int (i / j)):=Vd λi j _ _ _ _ _ hc q=>by
 have h1:(0:Int)<j:=hc.1
 have h2:j<1073741824:=hc.2
 exact floordiv_int 'b' (by rw[Int.fdiv_eq_ediv_of_nonneg i 'b'];exact q) (.inl (PyProof.noPylong_small 'b'))
theorem bq:oY X (binaryOp .Mod) (rI (λ_ j=>0<j) λi j=>.int (i % j)):=Vd λi j _ _ _ _ _ hc q=>by
 have h1:(0:Int)<j:=hc
 exact mod_int' 'b' (by rw[Int.fmod_eq_emod_of_nonneg i 'b'];exact q)
theorem AU:oY X (binaryOp .Pow) (rI RB λi j=>.int (i ^ j.toNat)):=Vd λ_ _ _ _ _ _ _ hc q=>pow_int_small hc.1 hc.2.1 hc.2.2 q
theorem unI{f:Value->Sem Value}{g:Int->Int}(rule:∀(i:Int)(t:Tok)(s:Shared)(Q:Value->Shared->Prop)(E:Value->Shared->Prop),Q (.int (g i) s.toks) {s with toks:=s.toks+1}->wpAny 'f' X.A (f (.int i t)) Q E s):V4 X f (rU λi=>.int (g i)):=by
 intro pins s σ H x v Q I rx h
 obtain⟨i,rfl,q⟩:=h
 obtain⟨t,rfl⟩:=rx
 exact rule i t s _ _ ⟨.int (g i),H,I.tok _,⟨_,rfl⟩,q⟩
theorem nA:V4 X (unaryOp .USub) (rU λi=>.int (-i)):=unI λ_ _ _ _ _ q=>neg_int q
end
def RC:V->V->Bool
 | .non,.non=>true | .non,.int _=>true | .int _,.non=>true | .non,.bl _=>true | .bl _,.non=>true | .non,.str _=>true | .str _,.non=>true
 | .int _,.int _=>true | .bl _,.bl _=>true | .str _,.str _=>true | .IV _,.IV _=>true
 | .int _,.str _=>true | .str _,.int _=>true | .bl _,.str _=>true | .str _,.bl _=>true
 |_,_=>false
def rEq:R2:=λx y H Q=>RC x y=true/\Q (.bl (decide (x=y))) H
def rNe:R2:=λx y H Q=>RC x y=true/\Q (.bl (!decide (x=y))) H
theorem FL{i j:Int}:decide (V.int i=V.int j)=(i==j):=by
 rw[abS]
 simp
theorem Jp{i j:Bool}:decide (V.bl i=V.bl j)=(i==j):=by
 rw[abS]
 simp
theorem FP{i j:Str}:decide (V.str i=V.str j)=(i==j):=by
 rw[abS]
 simp
theorem FT{i j:Array UInt8}:decide (V.IV i=V.IV j)=(i.toList==j.toList):=by
 rw[abS]
 cases i
 cases j
 simp
section
variable{X:Cx}{a b c:Expr}{ta tb tc:TE}{pos:Pos}
theorem bF{pins:List (Addr×Obj)}{σ:St}{H:Hp}{s:Shared}{Q:VK}{k k':Bool}(I:Inv X pins σ H s)(q:Q (.bl k) H)(e:k=k'):EP X pins σ Q (.bool k') s:=by
 subst e
 exact⟨.bl k,H,I,O,q⟩
theorem aU:oY X (compareOp .Eq) rEq:=by
 intro pins s σ H x y v u Q I rx ry h
 obtain⟨hs,q⟩:=h
 cases x with
 |non =>
  cases rx
  cases y with
  |non=>cases ry;exact PySem.EqNone.eq_none_none (bF I q (by simp))
  |bl j=>cases ry;exact PySem.EqNone.eq_none_bool (bF I q (by simp))
  |int j=>obtain⟨t',rfl⟩:=ry;exact PySem.EqNone.eq_none_int (bF I q (by simp))
  |str j=>obtain⟨t',rfl⟩:=ry;exact PySem.EqNone.eq_none_str (bF I q (by simp))
  |_=>exact absurd (show false=true from hs) abB
 |bl i =>
  cases rx
  cases y with
  |non=>cases ry;exact PySem.EqNone.eq_bool_none (bF I q (by simp))
  |bl j=>cases ry;exact eq_bool (bF I q Jp)
  |str j=>obtain⟨t',rfl⟩:=ry;exact PySem.EqMixed.eq_bool_str (bF I q (by simp))
  |_=>exact absurd (show false=true from hs) abB
 |int i =>
  obtain⟨t,rfl⟩:=rx
  cases y with
  |non=>cases ry;exact PySem.EqNone.eq_int_none (bF I q (by simp))
  |int j=>obtain⟨t',rfl⟩:=ry;exact eq_int (bF I q FL)
  |str j=>obtain⟨t',rfl⟩:=ry;exact PySem.EqMixed.eq_int_str (bF I q (by simp))
  |_=>exact absurd (show false=true from hs) abB
 |str i =>
  obtain⟨t,rfl⟩:=rx
  cases y with
  |non=>cases ry;exact PySem.EqNone.eq_str_none (bF I q (by simp))
  |bl j=>cases ry;exact PySem.EqMixed.eq_str_bool (bF I q (by simp))
  |int j=>obtain⟨t',rfl⟩:=ry;exact PySem.EqMixed.eq_str_int (bF I q (by simp))
  |str j=>obtain⟨t',rfl⟩:=ry;exact eq_str (bF I q FP)
  |_=>exact absurd (show false=true from hs) abB
 |IV i =>
  obtain⟨t,rfl⟩:=rx
  cases y with
  |IV j=>obtain⟨t',rfl⟩:=ry;exact W.eq_bytes (bF I q FT)
  |_=>exact absurd (show false=true from hs) abB
 |_=>cases y<;>exact absurd (show false=true from hs) abB
theorem pH:oY X (compareOp .NotEq) rNe:=by
 intro pins s σ H x y v u Q I rx ry h
 obtain⟨hs,q⟩:=h
 cases x with
 |non =>
  cases rx
  cases y with
  |non=>cases ry;exact PySem.EqNone.ne_none_none (bF I q (by simp))
  |bl j=>cases ry;exact PySem.EqNone.ne_none_bool (bF I q (by simp))
  |int j=>obtain⟨t',rfl⟩:=ry;exact PySem.EqNone.ne_none_int (bF I q (by simp))
  |str j=>obtain⟨t',rfl⟩:=ry;exact PySem.EqNone.ne_none_str (bF I q (by simp))
  |_=>exact absurd (show false=true from hs) abB
 |bl i =>
  cases rx
  cases y with
  |non=>cases ry;exact PySem.EqNone.ne_bool_none (bF I q (by simp))
  |bl j=>cases ry;exact ne_bool (bF I q (congrArg not Jp))
  |str j=>obtain⟨t',rfl⟩:=ry;exact PySem.EqMixed.ne_bool_str (bF I q (by simp))
  |_=>exact absurd (show false=true from hs) abB
 |int i =>
  obtain⟨t,rfl⟩:=rx
  cases y with
  |non=>cases ry;exact PySem.EqNone.ne_int_none (bF I q (by simp))
  |int j=>obtain⟨t',rfl⟩:=ry;exact ne_int (bF I q (congrArg not FL))
  |str j=>obtain⟨t',rfl⟩:=ry;exact PySem.EqMixed.ne_int_str (bF I q (by simp))
  |_=>exact absurd (show false=true from hs) abB
 |str i =>
  obtain⟨t,rfl⟩:=rx
  cases y with
  |non=>cases ry;exact PySem.EqNone.ne_str_none (bF I q (by simp))
  |bl j=>cases ry;exact PySem.EqMixed.ne_str_bool (bF I q (by simp))
  |int j=>obtain⟨t',rfl⟩:=ry;exact PySem.EqMixed.ne_str_int (bF I q (by simp))
  |str j=>obtain⟨t',rfl⟩:=ry;exact ne_str (bF I q (congrArg not FP))
  |_=>exact absurd (show false=true from hs) abB
 |IV i =>
  obtain⟨t,rfl⟩:=rx
  cases y with
  |IV j=>obtain⟨t',rfl⟩:=ry;exact W.ne_bytes (bF I q (congrArg not FT))
  |_=>exact absurd (show false=true from hs) abB
 |_=>cases y<;>exact absurd (show false=true from hs) abB
theorem vp:oY X (compareOp .Lt) (LS λi j=>.bl (decide (i<j))):=LU λ_ _ _ _ _ _ _ q=>lt_int q
theorem NP:oY X (compareOp .LtE) (LS λi j=>.bl (decide (i<=j))):=LU λ_ _ _ _ _ _ _ q=>le_int q
theorem qR:oY X (compareOp .Gt) (LS λi j=>.bl (decide (j<i))):=LU λ_ _ _ _ _ _ _ q=>gt_int q
theorem Jq:oY X (compareOp .GtE) (LS λi j=>.bl (decide (j<=i))):=LU λ_ _ _ _ _ _ _ q=>ge_int q
theorem cB:oY X (compareOp .In) (λx y H Q=>∃i j,x=.str i/\y=.str j/\Q (.bl (!(Builtin.Str.occurrences j i 0 j.length 1).isEmpty)) H):=by
 intro pins s σ H x y v u Q I rx ry h
 obtain⟨i,j,rfl,rfl,q⟩:=h
 obtain⟨t,rfl⟩:=rx
 obtain⟨t',rfl⟩:=ry
 exact in_str (bF I q rfl)
theorem Jr:oY X (compareOp .Is) (λx y H Q=>y=.non/\Q (.bl (decide (x=.non))) H):=by
 intro pins s σ H x y v u Q I rx ry h
 obtain⟨rfl,q⟩:=h
 cases ry
 refine is_none_gen (bF I q ?_)
 cases x<;>first
  | (cases rx;rfl)
  | (obtain⟨t,rfl⟩:=rx;rfl)
theorem LW:oY X (compareOp .IsNot) (λx y H Q=>y=.non/\Q (.bl (!decide (x=.non))) H):=by
 intro pins s σ H x y v u Q I rx ry h
 obtain⟨rfl,q⟩:=h
 cases ry
 refine isnot_none_gen (bF I q ?_)
 cases x<;>first
  | (cases rx;rfl)
  | (obtain⟨t,rfl⟩:=rx;rfl)
theorem Js(b:Expr){op:CmpOp}(h:op≠.In:=by decide)(h2:op≠.NotIn:=by decide):behindInMarks op b=false:=by
 have e1:(op==CmpOp.In)=false:=by cases op<;>first|rfl|exact absurd rfl h
 have e2:(op==CmpOp.NotIn)=false:=by cases op<;>first|rfl|exact absurd rfl h2
 cases b<;>simp[behindInMarks,e1,e2]
theorem LX{op:CmpOp}{r:R2}(ho:oY X (compareOp op) r)(ha:PE X a ta)(hb:PE X b tb)(hm:behindInMarks op b=false):PE X (.Compare a [op] [b] pos) (LB r ta tb):=by
 intro pins s σ H Q I h
 exact wpAny_Compare1 (Oz ha hb I h λv u s2 x y H2 I2 rx ry q=>ho pins s2 σ H2 x y v u Q I2 rx ry q) hm
def NQ(t:TE):TT:=λσ H Q=>t σ H λx H'=>∃k,x=.bl k/\Q k H'
theorem dP{op:CmpOp}{r:R2}(ho:oY X (compareOp op) r)(ha:PE X a ta)(hb:PE X b tb)(hm:behindInMarks op b=false):PT X (.Compare a [op] [b] pos) (NQ (LB r ta tb)):=by
 intro pins s σ H Q I h
 refine wpAny_isTrue_Compare1 (dJ (ha pins s σ H _ I h) λv s1 ⟨x,H1,I1,r1,q1⟩=>dJ (hb pins s1 σ H1 _ I1 q1) λu s2 ⟨y,H2,I2,r2,q2⟩ =>
  dJ (ho pins s2 σ H2 x y v u _ I2 r1 r2 q2) λc s3 ⟨z,H3,I3,r3,k,e,q3⟩=>?_) hm
 subst e
 cases r3
 exact wpAny_truthy_bool ⟨H3,I3,q3⟩
theorem tY:(sizeLine:Nat)<2 ^ 63:=by rw[sizeLine_eq];decide
theorem fq:oY X (binaryOp .Add) (λx y H Q=>∃i j,x=.str i/\y=.str j/\i.length+j.length<=sizeLine/\Q (.str (i++j)) H):=by
 intro pins s σ H x y v u Q I rx ry h
 obtain⟨i,j,rfl,rfl,hz,q⟩:=h
 obtain⟨t,rfl⟩:=rx
 obtain⟨t',rfl⟩:=ry
 exact add_str (λt' tk=>⟨.str (i++j),H,I.tok _,⟨_,rfl⟩,q⟩) hz
theorem vals1{x:V}{us:List Value}(r:Vals [x] us):∃u,us=[u]/\RelV x u:=by
 cases r with
 |cons r1 r2=>cases r2;exact⟨_,rfl,r1⟩
theorem vals2{x y:V}{us:List Value}(r:Vals [x,y] us):∃u w',us=[u,w']/\RelV x u/\RelV y w':=by
 cases r with
 |cons r1 r2 =>
  cases r2 with
  |cons r3 r4=>cases r4;exact⟨_,_,rfl,r1,r3⟩
theorem Hl(hc:X.calm=true):fk X (.builtin "max") (λxs H Q=>∃i j,xs=[.int i,.int j]/\Q (.int (if j>i then j else i)) H):=by
 intro pins s σ H xs us Q I r h
 obtain⟨i,j,rfl,q⟩:=h
 obtain⟨u,w',rfl,⟨t,rfl⟩,⟨t',rfl⟩⟩:=vals2 r
 refine max_two_ints (I.ok.hd hc) λh' tk k=>⟨_,H,I.kept k,?_,q⟩
 by_cases hj:j>i
 ·rw[abj hj,abj hj];exact⟨_,rfl⟩
 ·rw[abb hj,abb hj];exact⟨_,rfl⟩
theorem Aj:fk X (.type "int") (λxs H Q=>(∃i,xs=[.int i]/\Q (.int i) H)\/∃k,xs=[.bl k]/\Q (.int (if k then 1 else 0)) H):=by
 intro pins s σ H xs us Q I r h
 rcases h with ⟨i,rfl,q⟩|⟨k,rfl,q⟩
 ·obtain⟨u,rfl,t,rfl⟩:=vals1 r
  exact call_int_int ⟨.int i,H,I,⟨_,rfl⟩,q⟩
 ·obtain⟨u,rfl,r1⟩:=vals1 r
  cases r1
  exact call_int_bool ⟨.int (if k then 1 else 0),H,I.tok _,⟨_,rfl⟩,q⟩
theorem AV:fk X (.type "str") (λxs H Q=>∃i,xs=[.int i]/\i.natAbs.log2<1920/\Q (.str (toString i)) H):=by
 intro pins s σ H xs us Q I r h
 obtain⟨i,rfl,hz,q⟩:=h
 obtain⟨u,rfl,t,rfl⟩:=vals1 r
 exact PySem.P.str_of_int hz ⟨.str _,H,I.tok _,⟨_,rfl⟩,q⟩
theorem Jt:fk X (.builtin "ord") (λxs H Q=>∃x,xs=[.str x]/\x.length=1/\Q (.int (x.cps.getD 0 0:Nat)) H):=by
 intro pins s σ H xs us Q I r h
 obtain⟨x,rfl,hz,q⟩:=h
 obtain⟨u,rfl,t,rfl⟩:=vals1 r
 exact ord_of_one hz ⟨.int _,H,I.tok _,⟨_,rfl⟩,q⟩
end
structure Ej(h:Heap)(x dx C:Addr)(mA:Str->Option Value):Prop where
 obj:h.get? x=some (W.instObj C dx)
 ns:h.Ns1 dx mA
 ne:dx≠x
theorem Ho{h:Heap}{dx:Addr}{mA:Str->Option Value}(n:h.Ns1 dx mA):∃od,h.get? dx=some od/\∀name,W.lookIn name od=some (mA name):=by
 obtain⟨o,es,ep,ho,hd,hk,_,hm⟩:=n
 refine⟨o,ho,λname=>?_⟩
 have e:=hm name
 unfold nsFind findBy at e
 rw[←Array.find?_toList]at e
 unfold W.lookIn
 rw[hd]
 dsimp only
 split
 ·rename_i y q
  rw[q]at e
  exact congrArg some e
 ·rename_i q
  rw[q]at e
  have a:es.toList.any (·.refKey)=false:=by
   rw[List.any_eq_false]
   intro y hy
   obtain⟨z,t,hkey⟩:=hk y (Array.mem_toList_iff.mp hy)
   simp[DictEntry.refKey,hkey]
  have a':¬es.toList.any (·.refKey)=true:=by rw[a];exact abB
  rw[abb a']
  exact congrArg some e
theorem Ej.look{h:Heap}{x dx C:Addr}{mA:Str->Option Value}(I:Ej h x dx C mA):∃od,W.InstAt h x (W.instObj C dx) C (some od)/\∀name,W.lookIn name od=some (mA name) :=
 let ⟨od,ho,hl⟩:=Ho I.ns
 ⟨od,⟨I.obj,rfl,rfl,ho⟩,hl⟩
section
variable{prog:Program}{w:World}{A:Around}{E:Value->Shared->Prop}{s:Shared}{K:W.Frag}{x dx C f:Addr}{mA:Str->Option Value}{name:Str}{v:Value}
theorem get_map{expr:Bool}{Q:Value->Shared->Prop}(X:K.In s.heap)(I:Ej s.heap x dx C mA)(hg:W.plainGet K C name=true)(hh:W.hasDictIn K C=true)(ha:W.findIn K (.ref C) name=some none)(hv:mA name=some v)(hv':W.handedIn v=true)(h:Q v {s with toks:=s.toks+1}):wpAny (model prog w) A (getAttr (.ref x) name expr) Q E s:=by
 obtain⟨od,J,hl⟩:=I.look
 exact W.get_value X J (W.plainGet_of hg).1 (W.findObj_own hh ha rfl (by rw[hl,hv])) hv' h
theorem Ju{pl:Sem Bool}{Q:Value×List Value->Shared->Prop}(X:K.In s.heap)(I:Ej s.heap x dx C mA)(hg:W.plainGet K C name=true)(hf:W.findIn K (.ref C) name=some (some (.ref f)))(ht:W.isFn K (.ref f)=true)(hv:mA name=none)(h:Q (.ref f,[.ref x]) s):wpAny (model prog w) A (getMethod (.ref x) name pl) Q E s:=by
 obtain⟨od,J,hl⟩:=I.look
 exact W.method_fn X J (W.plainGet_of hg).1 (W.plainGet_of hg).2 hf (beq_iff_eq.mp ht) (by show(W.lookIn name od).map (·.isSome)=some false;rw[hl,hv];rfl) h
theorem LY{ns:List Str}{Q:Unit->Shared->Prop}(X:K.In s.heap)(I:Ej s.heap x dx C mA)(hs:W.findIn K (.ref C) "__setattr__"=some (some (.builtin "object.__setattr__")))(hp:W.plainOver K C=true)(ht:W.takerIn K C name=some none)(hh:W.hasDictIn K C=true)(hw:PySem.Within mA ns)(hsz:ns.length<=sizeLine)(h:∀h',Ej h' x dx C (λy=>if y=name then some v else mA y)->Heap.SameBut dx s.heap h'->Q () {s with heap:=h',toks:=s.toks+2}):wpAny (model prog w) A (setAttr (.ref x) name v) Q E s:=by
 obtain⟨od,J,hl⟩:=I.look
 refine W.set_plain X J hs (W.osa_open (s:={s with toks:=s.toks+1}) (r:=none) X J hp ht λb=>?_)
 obtain⟨cd,hc,hd'⟩:=W.any_some hh
 have hx:s.heap.get? x=some ⟨.ref C,some dx,.plain,#[]⟩:=I.obj
 refine abe (abz (abe (abe (wpAny_loadPart hx (abe (W.Looks.here (s:={s with toks:=s.toks+1}) (W.looks_clsIn X hc) ?_))))))
 rw[hd']
 refine abz (a:=some dx) (abe (abz (abe ?_)))
 refine wpAny_nsSet1 (s:={s with toks:=s.toks+1}) I.ns λh' hn2 hs2=>?_
 obtain⟨oD,esD,epD,hoD,hdD,hcD⟩:=hn2.count (PySem.Within.cons name v hw)
 refine abe (wpAny_lookBehind hoD (by rw[hdD];exact pastItsLine_dict (abv hcD (by rw[abF];omega))) ?_)
 exact abz (h _ ⟨(hs2.2 _ (acu I.ne)).trans I.obj,hn2,I.ne⟩ hs2)
theorem Jv{R:Result->Shared->Prop}{vs:List Value}{kw:List (Str×Value)}(X:K.In s.heap)(hm:W.makesIn K C=true)(hi:W.findIn K (.ref C) "__init__"=some (some (.ref f)))(hf:W.typeIn K (.ref f)=some (.type "function"))(h:codeAny (model prog w) (A.under (.builtin "type.__call__" ⟨.ref C::vs,kw⟩)) (.call (.ref f) ⟨.ref (s.heap.objs.size+1)::vs,kw⟩) (W.InitBack (s.heap.objs.size+1) R)
   {s with heap:=(s.heap.push W.emptyDict).push (W.instObj C s.heap.objs.size)}):codeAny (model prog w) A (.call (.ref C) ⟨vs,kw⟩) R s:=by
 obtain⟨hh,g,d,t,os⟩:=s
 exact W.make_core (W.makes_of X hm) (W.looks_findIn X hi) (λself=>W.bind_fn X self hf) (.inl rfl) h
end
def oZ(f:Str)(v:V):List (Str×V)->List (Str×V)
 |[]=>[(f,v)]
 | (g,x)::r=>if g=f then (g,v)::r else (g,x)::oZ f v r
theorem vq(f g:Str)(v:V):∀fs:List (Str×V),(oZ f v fs).lookup g=if g=f then some v else fs.lookup g
 |[]=>by
  show List.lookup g [(f,v)]=_
  by_cases h:g=f
  ·have hb:(g==f)=true:=beq_iff_eq.mpr h
   simp only[List.lookup,hb,abj h]
  ·have hb:(g==f)=false:=beq_eq_false_iff_ne.mpr h
   simp only[List.lookup,hb,abb h]
 | (k,x)::r=>by
  have ih:=vq f g v r
  rw[show oZ f v ((k,x)::r)=(if k=f then (k,v)::r else (k,x)::oZ f v r) from rfl]
  by_cases hk:k=f
  ·rw[abj hk]
   by_cases h:g=k
   ·have hb:(g==k)=true:=beq_iff_eq.mpr h
    simp only[List.lookup,hb,abj (h.trans hk)]
   ·have hb:(g==k)=false:=beq_eq_false_iff_ne.mpr h
    simp only[List.lookup,hb,abb (λe:g=f=>h (e.trans hk.symm))]
  ·rw[abb hk]
   by_cases h:g=k
   ·have hb:(g==k)=true:=beq_iff_eq.mpr h
    simp only[List.lookup,hb,abb (λe:g=f=>hk (h.symm.trans e))]
   ·have hb:(g==k)=false:=beq_eq_false_iff_ne.mpr h
    simp only[List.lookup,hb]
    exact ih
theorem tZ(f:Str)(v:V):∀fs:List (Str×V),f∈(oZ f v fs).map (·.1)/\∀g,g∈fs.map (·.1)->g∈(oZ f v fs).map (·.1)
 |[]=>⟨by simp[oZ],λg h=>by simp at h⟩
 | (k,x)::r=>by
  obtain⟨i1,i2⟩:=tZ f v r
  rw[show oZ f v ((k,x)::r)=(if k=f then (k,v)::r else (k,x)::oZ f v r) from rfl]
  by_cases hk:k=f
  ·rw[abj hk]
   subst hk
   exact⟨by simp,λg h=>by simpa using h⟩
  ·rw[abb hk]
   refine⟨?_,λg h=>?_⟩
   ·rw[ach]
    exact abp _ i1
   ·rw[ach]at h⊢
    rcases abt.mp h with e|e
    ·exact abt.mpr (.inl e)
    ·exact abp _ (i2 g e)
theorem vt(f:Str)(v:V):∀fs:List (Str×V),(oZ f v fs).length<=fs.length+1
 |[]=>by simp[oZ]
 | (k,x)::r=>by
  have ih:=vt f v r
  rw[show oZ f v ((k,x)::r)=(if k=f then (k,v)::r else (k,x)::oZ f v r) from rfl]
  by_cases hk:k=f
  ·rw[abj hk,abF,abF];omega
  ·rw[abb hk,abF,abF];omega
theorem zd.some_of{v:V}{o:Option Value}(r:zd (some v) o):∃u,o=some u/\RelV v u:=by
 cases o with
 |none=>exact(show False from r).elim
 |some u=>exact⟨u,rfl,r⟩
theorem zd.none_of{o:Option Value}(r:zd none o):o=none:=by
 cases o with
 |none=>rfl
 |some u=>exact(show False from r).elim
theorem Hq{v:V}{u:Value}(r:RelV v u):W.handedIn u=true:=by
 cases v with
 |non=>cases(show u=Value.none from r);rfl
 |bl b=>cases(show u=Value.bool b from r);rfl
 |int i=>obtain⟨t,e⟩:=(show ∃t,u=Value.int i t from r);cases e;rfl
 |str x=>obtain⟨t,e⟩:=(show ∃t,u=Value.str x t from r);cases e;rfl
 |IV b=>obtain⟨t,e⟩:=(show ∃t,u=Value.bytes b t from r);cases e;rfl
 |tQ b=>obtain⟨t,e⟩:=(show ∃t,u=Value.float b t from r);cases e;rfl
 |ref a=>cases(show u=Value.ref a from r);rfl
 |ty n=>cases(show u=Value.type n from r);rfl
section
variable{P:Program}{w:World}{H H':Hp}{h h':Heap}{a C dx:Addr}{fs fs':List (Str×V)}
theorem xx(hok:tS P w H h)(e:H a=some (.ins C dx fs)):∃mA,Ej h a dx C mA/\(∀f,zd (fs.lookup f) (mA f))/\PySem.Within mA (fs.map (·.1))/\fs.length<=1000/\H dx=some (.own a):=by
 obtain⟨d,z,ne,ob,mA,n,r,q⟩:=(show fU P w H h a (.ins C dx fs) from hok a _ e)
 exact⟨mA,⟨ob,n,ne⟩,r,q,z,d⟩
end
structure IX(K:W.Frag)(C:Addr):Prop where
 pg:W.plainGet K C Str.empty=true
 hd:W.hasDictIn K C=true
 po:W.plainOver K C=true
 sa:W.findIn K (.ref C) "__setattr__"=some (some (.builtin "object.__setattr__"))
theorem IX.get{K:W.Frag}{C:Addr}(c:IX K C)(f:Str):W.plainGet K C f=true:=c.pg
def gH(K:W.Frag)(C:Addr)(f:Str):Prop:=W.findIn K (.ref C) f=some none
theorem gH.RD{K:W.Frag}{C:Addr}{f:Str}(n:gH K C f):W.takerIn K C f=some none:=by
 unfold W.takerIn
 rw[show W.findIn K (.ref C) f=some none from n]
 rfl
structure Meth(K:W.Frag)(C:Addr)(m:Str)(f:Addr):Prop where
 at_:W.findIn K (.ref C) m=some (some (.ref f))
 fn:W.isFn K (.ref f)=true
 kp:W.keepIn K (.ref f)=true
section
variable{X:Cx}{pins:List (Addr×Obj)}{σ:St}{H:Hp}{s:Shared}{a C dx:Addr}{fs:List (Str×V)}{f:Str}{v:V}{A:Around}{E:Value->Shared->Prop}
theorem Ek{b:Bool}{Q:Value->Shared->Prop}(I:Inv X pins σ H s)(e:H a=some (.ins C dx fs))(c:IX X.K C)(n:gH X.K C f)(l:fs.lookup f=some v)(h:∀u s',Inv X pins σ H s'->RelV v u->Q u s'):wpAny 'f' A (getAttr (.ref a) f b) Q E s:=by
 obtain⟨mA,O,r,_,_,_⟩:=xx I.hok e
 obtain⟨u,hu,ru⟩:=zd.some_of (v:=v) (o:=mA f) (by rw[←l];exact r f)
 exact get_map I.tR O (c.get f) c.hd n hu (Hq ru) (h u _ (I.tok _) ru)
theorem xO{m:Str}{g:Addr}{pl:Sem Bool}{Q:Value×List Value->Shared->Prop}(I:Inv X pins σ H s)(e:H a=some (.ins C dx fs))(c:IX X.K C)(k:Meth X.K C m g)(l:fs.lookup m=none)(h:Q (.ref g,[.ref a]) s):wpAny 'f' A (getMethod (.ref a) m pl) Q E s:=by
 obtain⟨mA,O,r,_,_,_⟩:=xx I.hok e
 have hn:mA m=none:=zd.none_of (by rw[←l];exact r m)
 exact Ju I.tR O (c.get m) k.at_ k.fn hn h
theorem El{y:V}{u:Value}{Q:Unit->Shared->Prop}(I:Inv X pins σ H s)(e:H a=some (.ins C dx fs))(c:IX X.K C)(n:gH X.K C f)(hl:fs.length<1000)(ry:RelV y u)(h:∀s',Inv X pins σ (upd H a (.ins C dx (oZ f y fs))) s'->Q () s'):wpAny 'f' A (setAttr (.ref a) f u) Q E s:=by
 obtain⟨mA,O,r,wi,_,ho⟩:=xx I.hok e
 have hz:(fs.map (·.1)).length<=sizeLine:=by rw[aa9,sizeLine_eq];omega
 refine LY I.tR O c.sa c.po n.RD c.hd wi hz λh' O' sb=>h _ ?_
 have hd:∃o,h'.get? dx=some o:=let ⟨o,_,_,e',_⟩:=O'.ns;⟨o,e'⟩
 refine I.write (x:=a) (e:=dx) (by rw[e];exact True.intro) (.inr ho) (λb q hb z=>(sb.2 b hb).trans z) hd ?_
 refine⟨by rw[aH O.ne];exact ho,?_,O.ne,O'.obj,_,O'.ns,λg=>?_,λg hg=>?_⟩
 ·have:=vt f y fs;omega
 ·show zd ((oZ f y fs).lookup g) (if g=f then some u else mA g)
  rw[vq]
  by_cases q:g=f
  ·rw[abj q,abj q];exact ry
  ·rw[abb q,abb q];exact r g
 ·by_cases q:g=f
  ·rw[q];exact(tZ f y fs).1
  ·refine(tZ f y fs).2 g (wi g λz=>hg ?_)
   show(if g=f then some u else mA g)=none
   rw[abb q];exact z
theorem Inv.made(I:Inv X pins σ H s):Inv X pins σ (upd (upd H s.heap.objs.size (.own (s.heap.objs.size+1))) (s.heap.objs.size+1) (.ins C s.heap.objs.size []))
  {s with heap:=(s.heap.push W.emptyDict).push (W.instObj C s.heap.objs.size)}:=by
 have e1:(s.heap.push W.emptyDict).get? s.heap.objs.size=some W.emptyDict:=abC s.heap rfl
 have e2:((s.heap.push W.emptyDict).push (W.instObj C s.heap.objs.size)).get? (s.heap.objs.size+1)=some (W.instObj C s.heap.objs.size):=by
  have:=abC (s.heap.push W.emptyDict) (o:=W.instObj C s.heap.objs.size) rfl
  rwa [ab5]at this
 have e3:(s.heap.push W.emptyDict).Ns s.heap.objs.size (λ_=>none):=⟨W.emptyDict,#[],_,e1,rfl,(λe he=>absurd he (by simp)),λ_=>rfl⟩
 have I1:=I.laid (a:=s.heap.objs.size) (o:=.own (s.heap.objs.size+1)) (h':=s.heap.push W.emptyDict) (t':=s.toks) (λb u q=>abm _ q) (abh _) ⟨_,e1⟩
 refine I1.laid (a:=s.heap.objs.size+1) (o:=.ins C s.heap.objs.size []) (t':=s.toks) (λb u q=>abm _ q) (Nat.le_of_eq (ab5 _ _)) ?_
 have ne:s.heap.objs.size≠s.heap.objs.size+1:=abP (Nat.lt_succ_self _)
 refine⟨by rw[aH ne,ai],abW _,ne,e2,λ_=>none,(Heap.Ns1.of_empty e3).at λo q=>abm _ q,λ_=>True.intro,λy hy=>absurd rfl hy⟩
theorem LZ{prog:Program}{w:World}{env:Env}{e:Expr}{f:Str}{pos:Pos}{s:Shared}{Q:Value->Shared->Prop}(hb:attributeBase e f env (eval e env)=eval e env)(h:wpAny (model prog w) A (eval e env) (λo s₁=>wpAny (model prog w) A (getAttr o f true) Q E s₁) E s):wpAny (model prog w) A (eval (.Attribute e f pos) env) Q E s :=
 Attribute_any_ h (by rw[arm_eval_Attribute,hb])
end
def RE(K:W.Frag)(ta:TE)(f:Str):TE:=λσ H Q=>ta σ H λx H1=>∃a C dx fs v,x=.ref a/\H1 a=some (.ins C dx fs)/\IX K C/\gH K C f/\fs.lookup f=some v/\Q v H1
def V6(K:W.Frag)(ta tv:TE)(f:Str):TS:=λD σ H=>tv σ H λy H1=>ta σ H1 λx H2=>∃a C dx fs,x=.ref a/\H2 a=some (.ins C dx fs)/\IX K C/\gH K C f/\fs.length<1000/\D.nx σ (upd H2 a (.ins C dx (oZ f y fs)))
section
variable{X:Cx}{o e value:Expr}{f:Str}{pos pos' tpos:Pos}{ta tv:TE}
theorem OA(he:PE X e ta)(hb:attributeBase e f X.env (eval e X.env)=eval e X.env):PE X (.Attribute e f pos) (RE X.K ta f):=by
 intro pins s σ H Q I h
 refine LZ hb (dJ (he pins s σ H _ I h) λu s1 ⟨x,H1,I1,rx,a,C,dx,fs,v,ex,ea,c,n,l,q⟩=>?_)
 subst ex
 obtain rfl:u=Value.ref a:=rx
 exact Ek I1 ea c n l λu' s2 I2 ru=>⟨v,H1,I2,ru,q⟩
theorem nB(ha:PE X o ta)(hv:PE X value tv)(hs:swapsWith value (some (.Attribute o f pos')) pos.line X.env=pure false):PS X (.Assign [.Attribute o f pos'] value pos) (V6 X.K ta tv f):=by
 intro pins s σ H D I h
 refine plainObj_wpAny_Assign_Attribute (dJ (hv pins s σ H _ I h) λu s1 ⟨y,H1,I1,ry,q⟩=>dJ (ha pins s1 σ H1 _ I1 q) λov s2 ⟨x,H2,I2,rx,a,C,dx,fs,ex,ea,c,n,l,q2⟩=>?_) hs
 subst ex
 obtain rfl:ov=Value.ref a:=rx
 exact El I2 ea c n l ry λs3 I3=>⟨σ,_,I3,q2⟩
end
section
variable{X:Cx}{pins:List (Addr×Obj)}{σ:St}{H:Hp}{s:Shared}{A:Around}{E:Value->Shared->Prop}{Q:Value->Shared->Prop}{c:Value}{b:Bool}
inductive qp(K:W.Frag)(H:Hp):V->Value->Prop where
 |non:qp K H .non (.type "NoneType")
 |bl (x:Bool):qp K H (.bl x) (.type "bool")
 |int (i:Int):qp K H (.int i) (.type "int")
 |str (x:Str):qp K H (.str x) (.type "str")
 |tQ (x:UInt64):qp K H (.tQ x) (.type "float")
 |lst {a:Addr}{xs:List V} (e:H a=some (.lst xs)):qp K H (.ref a) (.type "list")
 |Ef {a:Addr}{o:Obj}{xs:List V} (e:H a=some (.Ef o (.lst xs))):qp K H (.ref a) (.type "list")
 |tup {a:Addr}{xs:List V} (e:H a=some (.tup xs)):qp K H (.ref a) (.type "tuple")
 |dK {a:Addr}{kvs:List (Key×V)} (e:H a=some (.dK kvs)):qp K H (.ref a) (.type "dict")
 |dT {a:Addr}{kvs:List (List Key×V)} (e:H a=some (.dT kvs)):qp K H (.ref a) (.type "dict")
 |ins {a C dx:Addr}{fs:List (Str×V)} (e:H a=some (.ins C dx fs)) (cl:IX K C) (ha:W.findIn K (.ref C) "__class__"=some (some (.builtin "object.__class__")))
   (hn:W.specialIn K (.builtin "object.__class__") "__get__"=some (some (.builtin "getset_descriptor.__get__"))) (htk:W.takesIn K (.builtin "object.__class__")=some true)
   (hm:W.mroIn K C (.type "object")=some true):qp K H (.ref a) (.ref C)
theorem Ak{x:V}{u t:Value}(I:Inv X pins σ H s)(rx:RelV x u)(ty:qp X.K H x t)(e:W.kitOne X.K t c=some b)(h:∀tk,Q (.bool b) {s with toks:=tk}):wpAny 'f' A (call (.builtin "isinstance") [u,c]) Q E s:=by
 cases ty with
 |non=>cases(show u=Value.none from rx);exact acv W.kitx_none I.tR True.intro e (λz=>nomatch z) h
 |bl y=>cases(show u=Value.bool y from rx);exact acv W.kitx_bool I.tR True.intro e (λz=>nomatch z) h
 |int i=>obtain⟨t,q⟩:=(show ∃t,u=Value.int i t from rx);cases q;exact acv W.kitx_int I.tR True.intro e (λz=>nomatch z) h
 |str y=>obtain⟨t,q⟩:=(show ∃t,u=Value.str y t from rx);cases q;exact acv W.kitx_str I.tR True.intro e (λz=>nomatch z) h
 |tQ y=>obtain⟨t,q⟩:=(show ∃t,u=Value.float y t from rx);cases q;exact acv W.kitx_float I.tR True.intro e (λz=>nomatch z) h
 |@lst a xs ea =>
  cases(show u=Value.ref a from rx)
  obtain⟨_,_,n,_,h1⟩:=(show fU X.prog X.w H s.heap a (.lst xs) from I.hok a _ ea)
  exact acv W.kitx_list I.tR ⟨_,h1,rfl⟩ e (λz=>nomatch z) h
 |@Ef a ob xs ea =>
  cases(show u=Value.ref a from rx)
  obtain⟨_,_,_,n,_,h1⟩:=(show fU X.prog X.w H s.heap a (.Ef ob (.lst xs)) from I.hok a _ ea)
  exact acv W.kitx_list I.tR ⟨_,h1,rfl⟩ e (λz=>nomatch z) h
 |@tup a xs ea =>
  cases(show u=Value.ref a from rx)
  obtain⟨_,_,_,p⟩:=(show fU X.prog X.w H s.heap a (.tup xs) from I.hok a _ ea)
  obtain⟨o,h1,h2,_⟩:=p
  exact acv W.kitx_tuple I.tR ⟨o,h1,h2⟩ e (λz=>nomatch z) h
 |@dK a kvs ea =>
  cases(show u=Value.ref a from rx)
  obtain⟨_,_,vs,_,p⟩:=(show fU X.prog X.w H s.heap a (.dK kvs) from I.hok a _ ea)
  obtain⟨o,es,ep,h1,h2,_⟩:=p
  exact acv W.kitx_dict I.tR ⟨o,h1,h2.1⟩ e (λz=>nomatch z) h
 |@dT a kvs ea =>
  cases(show u=Value.ref a from rx)
  obtain⟨_,_,xs,_,o,es,ep,h1,h2,_⟩:=(show fU X.prog X.w H s.heap a (.dT kvs) from I.hok a _ ea)
  exact acv W.kitx_dict I.tR ⟨o,h1,h2.1⟩ e (λz=>nomatch z) h
 |@ins a C dx fs ea cl ha hn htk hm =>
  cases(show u=Value.ref a from rx)
  obtain⟨mA,O,_⟩:=xx I.hok ea
  obtain⟨od,J,_⟩:=O.look
  exact acv (W.kitx_own (cl.get _) cl.hd ha hn htk hm) I.tR J e (λz=>nomatch z) h
end
structure dM(k:Nat)(A:Around):Prop where
 hd:A.handled=none
 dp:A.depth+3*k+5<recursionLimit
 un:A.units+16*k+200<cLine
theorem dM.mono{j k:Nat}{A:Around}(r:dM k A)(h:j<=k):dM j A:=⟨r.hd,by have:=r.dp;omega,by have:=r.un;omega⟩
theorem dM.deeper{k:Nat}{A:Around}(r:dM (k+1) A)(env:Env):dM k (A.deeper env) :=
 ⟨r.hd,by have:=r.dp;show A.depth+1+3*k+5<_;omega,by have:=r.un;show A.units+3+16*k+200<_;omega⟩
theorem dM.in1{k:Nat}{A:Around}(r:dM (k+1) A):dM k A.in1 :=
 ⟨r.hd,by have:=r.dp;show A.depth+3*k+5<_;omega,by have:=r.un;show A.units+1+16*k+200<_;omega⟩
theorem Em{A:Around}{C:Addr}{us:List Value}{kw:List (Str×Value)}:(A.under (.builtin "type.__call__" ⟨.ref C::us,kw⟩)).depth=A.depth+1:=by
 first|rfl|simp[Around.under,Code.weight,Code.isCreation,Code.isGuard,Code.isCaller,Code.frames,Code.isFrame,guardIds]
theorem En{A:Around}{C:Addr}{us:List Value}{kw:List (Str×Value)}:(A.under (.builtin "type.__call__" ⟨.ref C::us,kw⟩)).units=A.units+1:=by
 first|rfl|simp[Around.under,Code.cUnits,Code.frames,Code.isFrame]
theorem dM.make{k:Nat}{A:Around}(r:dM (k+1) A)(C:Addr)(us:List Value)(kw:List (Str×Value)):dM k (A.under (.builtin "type.__call__" ⟨.ref C::us,kw⟩)) :=
 ⟨r.hd,by have:=r.dp;rw[Em];omega,by have:=r.un;rw[En];omega⟩
theorem dM.depth{k:Nat}{A:Around}(r:dM k A):A.depth<recursionLimit:=by have:=r.dp;omega
theorem dM.units{k:Nat}{A:Around}(r:dM k A):A.units+64<cLine:=by have:=r.un;omega
theorem dM.aV{k:Nat}{A:Around}(r:dM k A):A.units<cLine:=by have:=r.un;omega
def L0:TA:=λ_ H Q=>Q [] H
def Jw(ta:TE)(tr:TA):TA:=λσ H Q=>ta σ H λx H1=>tr σ H1 λxs H2=>Q (x::xs) H2
section
variable{X:Cx}{e:Expr}{es:List Expr}{te:TE}{t:TA}{pos:Pos}
theorem ak:PA X [] L0:=λ_ _ _ _ H Q I h=>Calls.spliced_nil ⟨[],H,I,.nil,h⟩
theorem af(ha:PE X e te)(hr:PA X es t)(hs:starEach (e::es) X.env=(false,eval e X.env)::starEach es X.env:=by rfl):PA X (e::es) (Jw te t):=by
 intro pos pins s σ H Q I h
 rw[hs]
 show wpAny _ _ (spliced ((false,eval e X.env)::backTo pos (starEach es X.env))) _ _ s
 refine Calls.spliced_cons (dJ (ha pins s σ H _ I h) λu s1 ⟨x,H1,I1,r1,q1⟩=>?_)
 exact dJ (hr pos pins s1 σ H1 _ I1 q1) λus s2 ⟨xs,H2,I2,r2,q2⟩=>⟨x::xs,H2,I2,.cons r1 r2,q2⟩
def V7(t:TA):TE:=λσ H Q=>t σ H λxs H1=>xs.length<=sizeLine/\∀p,H1 p=none->Q (.ref p) (upd H1 p (.tup xs))
def V8(t:TA):TE:=λσ H Q=>t σ H λxs H1=>xs.length<=sizeLine/\∀p,H1 p=none->Q (.ref p) (upd H1 p (.lst xs))
theorem aB{x1}(h:PA X es t):PE X (.Tuple es x1 pos) (V7 t):=by
 intro pins s σ H Q I hq
 refine wpAny_Tuple_spliced (dJ (h pos pins s σ H _ I hq) λus s1 ⟨xs,H1,I1,r,z,q⟩=>⟨by rw[←r.length];exact z,?_⟩)
 have hf:H1 s1.heap.objs.size=none:=I1.hok.fresh (abh _)
 refine⟨.ref s1.heap.objs.size,upd H1 s1.heap.objs.size (.tup xs),I1.laid (t':=s1.toks) (λb u e=>abm _ e) (abh _) ?_,rfl,q _ hf⟩
 exact⟨z,us,r,⟨_,abC _ rfl,O,_,O⟩⟩
theorem aW(h:PA X es t):PE X (.List es pos) (V8 t):=by
 intro pins s σ H Q I hq
 refine wpAny_List_spliced (dJ (h pos pins s σ H _ I hq) λus s1 ⟨xs,H1,I1,r,z,q⟩=>⟨by rw[←r.length];exact z,?_⟩)
 have hf:H1 s1.heap.objs.size=none:=I1.hok.fresh (abh _)
 refine⟨.ref s1.heap.objs.size,upd H1 s1.heap.objs.size (.lst xs),I1.laid (t':=s1.toks) (λb u e=>abm _ e) (abh _) ?_,rfl,q _ hf⟩
 exact⟨z,us,0,r,abC _ rfl⟩
end
abbrev Sp:=List V->Hp->VK->XK->Prop
abbrev Hr:=List Env->Hp->Shared->XK->Value->Shared->Prop
structure zf(P:Program)(w:World)(K:W.Frag)(mg:Str->Option Value)(base:Heap)(A:Around)(outer:List Env)(s:Shared)(H:Hp):Prop where
 frames:A.frames=some outer
 mod:Mod K mg base
 bs:∀b o,base.get? b=some o->s.heap.get? b=some o/\H b=none
 IW:base.objs.size<=s.heap.objs.size
 tU:s.heap.FunFrames base outer
 NH:∀b∈frs outer,H b=none
 hok:tS P w H s.heap
 bare:AllBare s.gens
def CE(outer:List Env)(P:Program)(w:World)(H:Hp)(s:Shared)(Q:VK)(u:Value)(s':Shared):Prop :=
 ∃v H',s'.os=s.os/\AllBare s'.gens/\Un (frs outer) [] H H' s.heap s'.heap/\tS P w H' s'.heap/\RelV v u/\Q v H'
def CR(CX:Hr)(outer:List Env)(P:Program)(w:World)(H:Hp)(s:Shared)(Q:VK)(E:XK)(r:Result)(s':Shared):Prop :=
 match r with
 | .ok (.ret u)=>CE outer P w H s Q u s'
 | .ok _=>False
 | .error e=>CX outer H s E e s'
structure bu(P:Program)(w:World)(K:W.Frag)(mg:Str->Option Value)(base:Heap)(CX:Hr)(k:Nat)(f:Addr)(fd:FuncData)(ps:List Str)(sp:Sp):Prop where
 len:∀vs H Q E,sp vs H Q E->vs.length=ps.length
 run:∀(A:Around)(outer:List Env)(s:Shared)(H:Hp)(args:Args)(us:List Value)(vs:List V)(Q:VK)(E:XK),dM k A->zf P w K mg base A outer s H->BindsTo s fd args (ps.zip us)->Vals vs us->sp vs H Q E->codeAny (model P w) A (.call (.ref f) args) (CR CX outer P w H s Q E) s
theorem zf.make{P:Program}{w:World}{K:W.Frag}{mg:Str->Option Value}{base:Heap}{A:Around}{outer:List Env}{s:Shared}{H:Hp}(e:zf P w K mg base A outer s H)(C:Addr)(us:List Value)(kw:List (Str×Value)):zf P w K mg base (A.under (.builtin "type.__call__" ⟨.ref C::us,kw⟩)) outer s H:=⟨by first|exact e.frames | (simpa [Around.under,Code.envs,Code.isFrame,pushEnvs]using e.frames),e.mod,e.bs,e.IW,e.tU,e.NH,e.hok,e.bare⟩
theorem zf.in1{P:Program}{w:World}{K:W.Frag}{mg:Str->Option Value}{base:Heap}{A:Around}{outer:List Env}{s:Shared}{H:Hp}(e:zf P w K mg base A outer s H):zf P w K mg base A.in1 outer s H:=⟨e.frames,e.mod,e.bs,e.IW,e.tU,e.NH,e.hok,e.bare⟩
section
variable{X:Cx}{pins:List (Addr×Obj)}{σ:St}{H:Hp}{s s':Shared}
theorem Inv.RG(I:Inv X pins σ H s):zf X.prog X.w X.K X.mg X.base X.A X.stack s H :=
 ⟨I.ok.frames,I.ok.mod,I.bs,abv I.ok.IW I.sz,I.stack,I.xu,I.hok,I.bare⟩
theorem Inv.after{Q:VK}{u:Value}(I:Inv X pins σ H s)(h:CE X.stack X.prog X.w H s Q u s'):EP X pins σ Q u s':=by
 obtain⟨v,H',os,bare,un,hok,r,q⟩:=h
 obtain⟨hh,g,d,t,os'⟩:=s'
 obtain rfl:os'=s.os:=os
 exact⟨v,H',I.call (h':=hh) (g':=g) (d':=d) (t':=t) (ch:=[]) un hok bare (λb z=>absurd z (by simp)),r,q⟩
end
def Jx(sp:Sp)(yY:List V)(E:XK)(t:TA):TE:=λσ H Q=>t σ H λvs H1=>sp (vs++yY) H1 Q E
def NR(C:Addr)(m:Str)(sp:Sp)(yY:List V)(E:XK)(ta:TE)(t:TA):TE:=λσ H Q=>ta σ H λx H1=>∃a dx fs,x=.ref a/\H1 a=some (.ins C dx fs)/\fs.lookup m=none/\t σ H1 λvs H2=>sp (x::(vs++yY)) H2 Q E
def RH(C:Addr)(sp:Sp)(yY:List V)(E:XK)(t:TA):TE:=λσ H Q=>t σ H λvs H1=>∀x dx,H1 x=none->H1 dx=none->dx≠x->sp (.ref x::(vs++yY)) (upd (upd H1 dx (.own x)) x (.ins C dx [])) (λv H2=>v=.non/\Q (.ref x) H2) E
def Binds(K:W.Frag)(fd:FuncData)(ps:List Str)(ds:List Value):Prop :=
 ∀(s:Shared)(us:List Value),K.In s.heap->(us++ds).length=ps.length->BindsTo s fd ⟨us,[]⟩ (ps.zip (us++ds))
theorem Binds.all{K:W.Frag}{fd:FuncData}{ps:List Str}(h:∀us:List Value,us.length=ps.length->bindArgs fd ⟨us,[]⟩=pure (ps.zip us)):Binds K fd ps []:=λs us _ hl=>by
 rw[acq]at hl⊢
 exact .of_eq (h us hl)
def Passes(CX:Hr)(X:Cx)(E:XK):Prop:=∀(pins:List (Addr×Obj))(σ:St)(H:Hp)(s:Shared)(e:Value)(s':Shared),Inv X pins σ H s->CX X.stack H s E e s'->X.xe e s'
section
variable{X:Cx}{CX:Hr}{k:Nat}{f C:Addr}{fd:FuncData}{ps:List Str}{sp:Sp}{yY:List V}{ds:List Value}{E:XK}{x m:Str}{p pos apos:Pos}{e o:Expr}{es:List Expr}{ta:TE}{t:TA}
theorem Eo{pins:List (Addr×Obj)}{σ:St}{H:Hp}{s:Shared}{Q:VK}{us:List Value}{vs:List V}(F:bu X.prog X.w X.K X.mg X.base CX k f fd ps sp)(hr:dM k X.A)(hb:Binds X.K fd ps ds)(hd:Vals yY ds)(hx:Passes CX X E)(I:Inv X pins σ H s)(r:Vals vs us)(h:sp (vs++yY) H Q E):wpAny 'f' X.A (call (.ref f) us) (EP X pins σ Q) X.xe s:=by
 have r2:Vals (vs++yY) (us++ds):=r.append hd
 have hl:(us++ds).length=ps.length:=by rw[←r2.length];exact F.len _ _ _ _ h
 refine wpAny_call (codeAny_mono (F.run X.A X.stack s H ⟨us,[]⟩ (us++ds) (vs++yY) Q E hr I.RG (hb s us I.tR hl) r2 h) λr s' hq=>?_)
 cases r with
 |error e=>exact hx pins σ H s e s' I hq
 |ok fl =>
  cases fl with
  |ret u=>exact I.after hq
  |next=>exact False.elim hq
  |brk=>exact False.elim hq
  |cont=>exact False.elim hq
theorem FU(F:bu X.prog X.w X.K X.mg X.base CX k f fd ps sp)(hr:dM k X.A)(hg:Gl X x)(hm:X.mg x=some (.ref f))(hk:W.keepIn X.K (.ref f)=true)(hb:Binds X.K fd ps ds)(hd:Vals yY ds)(hx:Passes CX X E)(ha:PA X (e::es) t)(hdb:(x==("__debug__":Str))=false:=by decide)(he:starEach (e::es) X.env=(false,eval e X.env)::starEach es X.env:=by rfl)(hpl:(backTo pos (starEach es X.env)).any (·.1)=false:=by rfl):PE X (.Call (.Name x p) (e::es) [] pos) (Jx sp yY E t):=by
 intro pins s σ H Q I h
 refine acj (xw I hg hm ?_ hdb)
 refine W.callWith_K (h₀:=X.base) I.ok.mod.D6 hk (dJ (ha pos pins s σ H _ I h) λus s1 ⟨vs,H1,I1,r,q⟩=>⟨I1.tR,?_⟩) he hpl
 exact Eo F hr hb hd hx I1 r q
theorem L1{pl:Sem Bool}(he:PE X o ta)(c:IX X.K C)(hm:Meth X.K C m f)(F:bu X.prog X.w X.K X.mg X.base CX k f fd ps sp)(hr:dM k X.A)(hb:Binds X.K fd ps ds)(hd:Vals yY ds)(hx:Passes CX X E)(ha:PA X (e::es) t)(hst:starEach (e::es) X.env=(false,eval e X.env)::starEach es X.env:=by rfl)(hpl:(backTo pos (starEach es X.env)).any (·.1)=false:=by rfl)(ht:eval (.Call (.Attribute o m apos) (e::es) [] pos) X.env=(do
   let ov ←eval o X.env
   standAt apos.atName
   let (f,first) ←holding [ov] (getMethod ov m pl)
   callWith pos f first (backTo pos (starEach (e::es) X.env)) (backToKw pos (keywordEach [] X.env))):=by rfl):PE X (.Call (.Attribute o m apos) (e::es) [] pos) (NR C m sp yY E ta t):=by
 intro pins s σ H Q I h
 refine W.methodCall_KW (pl:=pl) (dJ (he pins s σ H _ I h) λu s1 ⟨x,H1,I1,rx,a,dx,fs,ex,ea,l,q⟩=>?_) ht
 subst ex
 obtain rfl:u=Value.ref a:=rx
 refine xO I1 ea c hm l ?_
 refine W.callWith_K (first:=[.ref a]) (h₀:=X.base) I.ok.mod.D6 hm.kp (dJ (ha pos pins s1 σ H1 _ I1 q) λus s2 ⟨vs,H2,I2,r,q2⟩=>⟨I2.tR,?_⟩) hst hpl
 exact Eo (us:=.ref a::us) (vs:=.ref a::vs) F hr hb hd hx I2 (.cons rfl r) q2
theorem Jy{pl:Sem Bool}(he:PE X o ta)(c:IX X.K C)(hm:Meth X.K C m f)(F:bu X.prog X.w X.K X.mg X.base CX k f fd ps sp)(hr:dM k X.A)(hb:Binds X.K fd ps ds)(hd:Vals yY ds)(hx:Passes CX X E)(ht:eval (.Call (.Attribute o m apos) [] [] pos) X.env=(do
   let ov ←eval o X.env
   standAt apos.atName
   let (f,first) ←holding [ov] (getMethod ov m pl)
   callWith pos f first (backTo pos (starEach [] X.env)) (backToKw pos (keywordEach [] X.env))):=by rfl):PE X (.Call (.Attribute o m apos) [] [] pos) (NR C m sp yY E ta L0):=by
 intro pins s σ H Q I h
 refine W.methodCall_KW (pl:=pl) (dJ (he pins s σ H _ I h) λu s1 ⟨x,H1,I1,rx,a,dx,fs,ex,ea,l,q⟩=>?_) ht
 subst ex
 obtain rfl:u=Value.ref a:=rx
 refine xO I1 ea c hm l ?_
 exact W.callWith_K0 (first:=[.ref a]) I1.tR hm.kp (Eo (us:=[.ref a]) (vs:=[.ref a]) F hr hb hd hx I1 (.cons rfl .nil) q)
structure Mk(K:W.Frag)(C f:Addr):Prop where
 makes:W.makesIn K C=true
 init:W.findIn K (.ref C) "__init__"=some (some (.ref f))
 fn:W.isFn K (.ref f)=true
 kp:W.keepIn K (.ref C)=true
theorem Jz{pins:List (Addr×Obj)}{σ:St}{H:Hp}{s:Shared}{Q:VK}{us:List Value}{vs:List V}(M:Mk X.K C f)(F:bu X.prog X.w X.K X.mg X.base CX k f fd ps sp)(hr:dM (k+1) X.A)(hb:Binds X.K fd ps ds)(hd:Vals yY ds)(hx:Passes CX X E)(I:Inv X pins σ H s)(r:Vals vs us)(h:∀x dx,H x=none->H dx=none->dx≠x->sp (.ref x::(vs++yY)) (upd (upd H dx (.own x)) x (.ins C dx [])) (λv H2=>v=.non/\Q (.ref x) H2) E):wpAny 'f' X.A (call (.ref C) us) (EP X pins σ Q) X.xe s:=by
 have hq:=h (s.heap.objs.size+1) s.heap.objs.size (I.hok.fresh (Nat.le_succ _)) (I.hok.fresh (abh _)) (abP (Nat.lt_succ_self _))
 have I2:=Inv.made (C:=C) I
 have r2:Vals (V.ref (s.heap.objs.size+1)::(vs++yY)) (Value.ref (s.heap.objs.size+1)::(us++ds)):=.cons rfl (r.append hd)
 have hl:(Value.ref (s.heap.objs.size+1)::us++ds).length=ps.length:=by
  have e:=r2.length
  rw[F.len _ _ _ _ hq]at e
  exact e.symm
 refine wpAny_call (Jv (f:=f) I.tR M.makes M.init (beq_iff_eq.mp M.fn) (codeAny_mono (F.run _ X.stack _ _ ⟨Value.ref (s.heap.objs.size+1)::us,[]⟩ (Value.ref (s.heap.objs.size+1)::(us++ds)) _ _ E (hr.make C us [])
  (I2.RG.make C us []) (hb _ (Value.ref (s.heap.objs.size+1)::us) I2.tR hl) r2 hq) λr s' hq'=>?_))
 cases r with
 |error e=>exact hx pins σ _ _ e s' I2 hq'
 |ok fl =>
  cases fl with
  |ret u =>
   obtain⟨v,H',I3,rv,ev,q3⟩:=I2.after hq'
   subst ev
   exact⟨rv,⟨V.ref (s.heap.objs.size+1),H',I3,O,q3⟩⟩
  |next=>exact False.elim hq'
  |brk=>exact False.elim hq'
  |cont=>exact False.elim hq'
theorem FW(M:Mk X.K C f)(F:bu X.prog X.w X.K X.mg X.base CX k f fd ps sp)(hr:dM (k+1) X.A)(hg:Gl X x)(hm:X.mg x=some (.ref C))(hb:Binds X.K fd ps ds)(hd:Vals yY ds)(hx:Passes CX X E)(ha:PA X (e::es) t)(hdb:(x==("__debug__":Str))=false:=by decide)(he:starEach (e::es) X.env=(false,eval e X.env)::starEach es X.env:=by rfl)(hpl:(backTo pos (starEach es X.env)).any (·.1)=false:=by rfl):PE X (.Call (.Name x p) (e::es) [] pos) (RH C sp yY E t):=by
 intro pins s σ H Q I h
 refine acj (xw I hg hm ?_ hdb)
 refine W.callWith_K (h₀:=X.base) I.ok.mod.D6 M.kp (dJ (ha pos pins s σ H _ I h) λus s1 ⟨vs,H1,I1,r,q⟩=>⟨I1.tR,?_⟩) he hpl
 exact Jz M F hr hb hd hx I1 r q
end
section
variable{X:Cx}{CX:Hr}{k:Nat}{f C:Addr}{fd:FuncData}{ps ks:List Str}{sp:Sp}{E:XK}{x m:Str}{p pos apos kpos:Pos}{e o:Expr}{es:List Expr}{kws:List Keyword}{te ta:TE}{t tk:TA}{nm:Option Str}
variable{g:List Value->List Value->List Value}{gV:List V->List V->List V}
end
structure aP(N P:List Str)(sc:Scope):Prop where
 kind:sc.kind=.function
 co:sc.isCoroutine=false
 gen:sc.isGenerator=false
 nd:N.Nodup
 pre:N.take P.length=P
 par:∀x∈P,sc.names.lookup x=some .local\/sc.names.lookup x=some .cell
 OB:∀y∈sc.names,y.2≠.free
theorem Al{kindOf:Str->Option NameKind}{x:Str}:∀{binds:List (Str×Value)}{m:Str->Option Value},(∀v,(x,v)∉binds)->bindL kindOf binds m x=m x
 |[],_,_=>rfl
 | (n,v)::r,m,h=>by
  unfold bindL
  rw[Al λw hw=>h w (abp _ hw)]
  split
  ·have:x≠n:=by rintro rfl;exact h v abl
   simp[this]
  ·rfl
theorem Am{kindOf:Str->Option NameKind}{x:Str}:∀{binds:List (Str×Value)}{m:Str->Option Value},(∀v,(x,v)∉binds)->bindC kindOf binds m x=m x
 |[],_,_=>rfl
 | (n,v)::r,m,h=>by
  unfold bindC
  rw[Am λw hw=>h w (abp _ hw)]
  split
  ·rfl
  ·have:x≠n:=by rintro rfl;exact h v abl
   simp[this]
theorem An{kindOf:Str->Option NameKind}{x:Str}{v:Value}:∀{P:List Str}{vs:List Value}{i:Nat}{m:Str->Option Value},P.Nodup->P[i]?=some x->vs[i]?=some v->kindOf x=some .local->bindL kindOf (P.zip vs) m x=some v
 |[],_,_,_,_,h,_,_=>by simp at h
 |_::_,[],_,_,_,_,h,_=>by simp at h
 |p::P,w::vs,0,m,nd,h1,h2,hk=>by
  simp at h1 h2;subst h1;subst h2
  show bindL kindOf ((p,w)::P.zip vs) m p=_
  unfold bindL
  rw[Al λv hv=>(acg.mp nd).1 (List.of_mem_zip hv).1,abj hk]
  simp
 |p::P,w::vs,i+1,m,nd,h1,h2,hk=>by
  show bindL kindOf ((p,w)::P.zip vs) m x=_
  unfold bindL
  exact An (i:=i) (acg.mp nd).2 (by simpa using h1) (by simpa using h2) hk
theorem Ao{kindOf:Str->Option NameKind}{x:Str}{v:Value}:∀{P:List Str}{vs:List Value}{i:Nat}{m:Str->Option Value},P.Nodup->P[i]?=some x->vs[i]?=some v->kindOf x≠some .local->bindC kindOf (P.zip vs) m x=some v
 |[],_,_,_,_,h,_,_=>by simp at h
 |_::_,[],_,_,_,_,h,_=>by simp at h
 |p::P,w::vs,0,m,nd,h1,h2,hk=>by
  simp at h1 h2;subst h1;subst h2
  show bindC kindOf ((p,w)::P.zip vs) m p=_
  unfold bindC
  rw[Am λv hv=>(acg.mp nd).1 (List.of_mem_zip hv).1,abb hk]
  simp
 |p::P,w::vs,i+1,m,nd,h1,h2,hk=>by
  show bindC kindOf ((p,w)::P.zip vs) m x=_
  unfold bindC
  exact Ao (i:=i) (acg.mp nd).2 (by simpa using h1) (by simpa using h2) hk
def start(N:List Str)(vs:List V):St:=vs.map some++List.replicate (N.length-vs.length) none
def AW(CX:Hr)(P:Program)(w:World)(K:W.Frag)(mg:Str->Option Value)(base:Heap)(N:List Str)(qual:Str)(scope:Scope)(f:Addr)(cd:Value)(A:Around)(outer:List Env)(s:Shared)(H:Hp)(E:XK):Cx where
 prog:=P
 w:=w
 K:=K
 mg:=mg
 base:=base
 A:=A.deeper (envOfC qual scope s.heap.objs.size f cd)
 N:=N
 s₀:=s
 H₀:=H
 env:=envOfC qual scope s.heap.objs.size f cd
 outer:=outer
 stack:=envOfC qual scope s.heap.objs.size f cd::outer
 ex:=[]
 calm:=true
 fn:=λ_=>true
 pn:=[]
 xe:=λe s'=>wpAny (model P w) (A.deeper (envOfC qual scope s.heap.objs.size f cd)) (leaving (envOfC qual scope s.heap.objs.size f cd) e) (λ_ s''=>CX outer H s E e s'') (λe' s''=>CX outer H s E e' s'') s'
theorem CM{sc:Scope}{n:Nat}{x:Str}(h:sc.names.lookup x=some .cell):∃c,(cellsFrom n sc.names []).lookup x=some c:=by
 have q:=W.cellsFrom_some sc.names n [] (.inl h)
 exact Option.isSome_iff_exists.mp q
theorem Hs{CX:Hr}{P:Program}{w:World}{K:W.Frag}{mg:Str->Option Value}{base:Heap}{N ps:List Str}{qual:Str}{scope:Scope}{f:Addr}{cd:Value}{A:Around}{outer:List Env}{s s1:Shared}{H:Hp}{E:XK}{us:List Value}{vs:List V}(S:aP N ps scope)(hd:A.handled=none)(e0:zf P w K mg base A outer s H)(hl:vs.length=ps.length)(r:Vals vs us)(x:InCallC s s.heap.objs.size (bindL (envOfC qual scope s.heap.objs.size f cd).kindOf (ps.zip us) λ_=>none) (cellsFrom (s.heap.objs.size+1) scope.names []) (bindC (envOfC qual scope s.heap.objs.size f cd).kindOf (ps.zip us) λ_=>none) s1):Inv (AW CX P w K mg base N qual scope f cd A outer s H E) [] (start N vs) H s1:=by
 have hpl:ps.length<=N.length:=by have:=congrArg List.length S.pre;rw[abJ]at this;omega
 obtain⟨h1,tk,rfl,hk⟩:=x.done
 have RI:∀b:Addr,b∉(AW CX P w K mg base N qual scope f cd A outer s H E).ex:=λb z=>absurd (show b∈([]:List Addr) from z) (by simp)
 refine⟨⟨e0.mod,S.kind,O,O,abh _,λy z c h1 h2=>?_,λy hy=>?_,λy c _ h=>?_,λ_=>hd,Around.frames_deeper e0.frames,.inr ⟨O,O⟩,λb z=>absurd z (RI b),e0.bs,e0.IW,λb _ _=>RI b,λb z=>absurd z (RI b),e0.tU,e0.NH⟩,O,e0.bare,Un.kept hk,⟨_,x.toInCall.ns,λi y v h1 h2 h3=>?_⟩,λy c h=>⟨_,x.cell y c h⟩,e0.hok.fresh (abh _),λy c h=>?_,λp hp=>absurd (show p∈([]:List (Addr×Obj)) from hp) (by simp),e0.hok.kept hk,?_⟩
 ·exact name_of_addr x.apart (abQ h1) (abQ h2)
 ·have hy:scope.names.lookup y=some .cell\/scope.names.lookup y=some .free:=hy
  rcases hy with hy|hy
  ·exact CM hy
  ·exact absurd rfl (S.OB _ (abQ hy))
 ·exact acK (x.above y c (abQ h))
 ·have hi:i<vs.length:=by
   unfold start at h2
   by_cases hi:i<vs.length
   ·exact hi
   ·rw[acG (by simpa using hi)]at h2
    rw[List.getElem?_replicate]at h2
    split at h2<;>cases h2
  have ha:vs[i]?=some v:=by
   unfold start at h2
   rw[aco (by simpa using hi),abM]at h2
   cases e:vs[i]? with
   |none=>rw[e]at h2;cases h2
   |some a=>rw[e]at h2;cases h2;rfl
  obtain⟨u,hu,rv⟩:=r.get ha
  have hp:ps[i]?=some y:=by
   rw[←S.pre,List.getElem?_take_of_lt 'b'];exact h1
  have ndP:ps.Nodup:=by rw[←S.pre];exact S.nd.sublist (List.take_sublist _ _)
  refine⟨u,rv,?_⟩
  rcases S.par y (abi hp) with k|k
  ·exact .inl ⟨k,An ndP hp hu k⟩
  ·obtain⟨c,e⟩:=CM (n:=s.heap.objs.size+1) k
   refine .inr ⟨.inl k,c,e,?_⟩
   have q:=x.cell y c e
   rw[Ao ndP hp hu (by show scope.names.lookup y≠_;rw[k];decide)]at q
   exact q
 ·exact e0.hok.fresh (acK (x.above y c (abQ h)))
 ·unfold start
  show _=N.length
  rw[abq,aa9,ack]
  omega
theorem JA{CX:Hr}{P:Program}{w:World}{K:W.Frag}{mg:Str->Option Value}{base:Heap}{k:Nat}{f:Addr}{name qual:Str}{params:Arguments}{body:List Stmt}{scope:Scope}{dV kV doc pm cdv ct oc:Value}{an od:Option Addr}{osl:Array (Option Value)}{N ps:List Str}{sp:Sp}(lk:K.lookup f=some ⟨oc,od,.func (W.fnOf name qual params body scope dV kV doc pm an cdv ct),osl⟩)(hcd:W.codeIn K cdv qual=true)(S:aP N ps scope)(len:∀vs H Q E,sp vs H Q E->vs.length=ps.length)(hbody:∀(A:Around)(outer:List Env)(s:Shared)(H:Hp)(vs:List V)(Q:VK)(E:XK),dM k (A.deeper (envOfC qual scope s.heap.objs.size f cdv))->sp vs H Q E->∃t,FJ (AW CX P w K mg base N qual scope f cdv A outer s H E) body t/\t {nx:=λ_ H'=>Q .non H',rt:=Q} (start N vs) H):bu P w K mg base CX (k+1) f (W.fnOf name qual params body scope dV kV doc pm an cdv ct) ps sp:=by
 refine⟨len,λA outer s H args us vs Q E hr e0 hb r IY=>?_⟩
 have hl:=len _ _ _ _ IY
 have KX:K.In s.heap:=e0.mod.D6.keeps λb o e=>(e0.bs b o e).1
 have lim:s.heap.NoLimit:=e0.mod.nolimit.keeps λb o e=>(e0.bs b o e).1
 have hkind:∀y∈ps.zip us,scope.names.lookup y.1=some .local\/(scope.names.lookup y.1=some .cell/\((cellsFrom (s.heap.objs.size+1) scope.names []).lookup y.1).isSome=true):=λ⟨n,v⟩ hy=>by
  rcases S.par n (List.of_mem_zip hy).1 with q|q
  ·exact .inl q
  ·exact .inr ⟨q,W.cellsFrom_some _ _ _ (.inl q)⟩
 refine codeAny_call_function hr.depth (KX _ _ lk) rfl S.co S.gen rfl (W.codeRec_of KX hcd) (hb _ _ _ _ ?_)
 refine wpAny_newFunctionEnv_cells S.kind hkind λenv he s1 x=>?_
 subst he
 refine⟨lim.keeps x.toInCall.keep,codeAny_func ?_⟩
 obtain⟨t,ht,hq⟩:=hbody A outer s H vs Q E (hr.deeper _) IY
 have I:Inv (AW CX P w K mg base N qual scope f cdv A outer s H E) [] (start N vs) H s1:=Hs S hr.hd e0 hl r x
 refine acp (ht [] s1 (start N vs) H _ I hq) (λfl s' hs=>?_) λe s' hs=>hs
 have fin:∀{σ':St}{H':Hp}{v:V}{u:Value},Inv (AW CX P w K mg base N qual scope f cdv A outer s H E) [] σ' H' s'->RelV v u->Q v H'->CE outer P w H s Q u s' :=
  λ{σ' H' v u} J rv q=>⟨v,H',J.os,J.bare,J.base,J.hok,rv,q⟩
 cases fl with
 |ret u =>
  obtain⟨v,σ',H',J,rv,q⟩:=hs
  exact fin J rv q
 |next =>
  obtain⟨σ',H',J,q⟩:=hs
  exact fin (v:=V.non) (u:=Value.none) J rfl q
 |brk =>
  obtain⟨_,_,_,q⟩:=hs
  exact False.elim q
 |cont =>
  obtain⟨_,_,_,q⟩:=hs
  exact False.elim q
section
variable{X:Cx}{x:Str}{p pos:Pos}{e:Expr}{es:List Expr}{t:TA}{id T:String}{r:List V->Hp->VK->Prop}
def Ve(r:List V->Hp->VK->Prop)(t:TA):TE:=λσ H Q=>t σ H λvs H1=>r vs H1 Q
theorem JB(hc:fk X (.builtin id) r)(hg:Gl X x)(hm:X.mg x=none)(hv:bootBuiltins x=some (.builtin id))(ha:PA X (e::es) t)(hn:x ≠ "__name__":=by decide)(hdb:(x==("__debug__":Str))=false:=by decide)(he:starEach (e::es) X.env=(false,eval e X.env)::starEach es X.env:=by rfl)(hpl:(backTo pos (starEach es X.env)).any (·.1)=false:=by rfl):PE X (.Call (.Name x p) (e::es) [] pos) (Ve r t):=by
 intro pins s σ H Q I h
 refine acj (ko I hg hm hv ?_ hn hdb)
 exact PyProof.Rows.callWith_builtin1 (dJ (ha pos pins s σ H _ I h) λus s1 ⟨vs,H1,I1,r1,q1⟩=>hc pins s1 σ H1 vs us Q I1 r1 q1) he hpl
theorem Ht(hc:fk X (.type T) r)(hg:Gl X x)(hm:X.mg x=none)(hv:bootBuiltins x=some (.type T))(ha:PA X (e::es) t)(hn:x ≠ "__name__":=by decide)(hdb:(x==("__debug__":Str))=false:=by decide)(he:starEach (e::es) X.env=(false,eval e X.env)::starEach es X.env:=by rfl)(hpl:(backTo pos (starEach es X.env)).any (·.1)=false:=by rfl):PE X (.Call (.Name x p) (e::es) [] pos) (Ve r t):=by
 intro pins s σ H Q I h
 refine acj (ko I hg hm hv ?_ hn hdb)
 exact ab1 (dJ (ha pos pins s σ H _ I h) λus s1 ⟨vs,H1,I1,r1,q1⟩=>hc pins s1 σ H1 vs us Q I1 r1 q1) he hpl
end
end L2
namespace HT
open PySem PyProof.Rows
section
open PySem.SeqAt
open PySem.AutoSeq1 (wpAny_loadPart')
open PySem.MeetsSeq PySem.MeetsSeq2 PySem.MeetsSeq3
end
section
variable{prog:Program}{w:World}{A:Around}{E:Value->Shared->Prop}{s:Shared}
def yZ(n d:Nat):Option Int->Nat
 |none=>d
 |some v=>if v<0 then (v+(n:Int)).toNat else min v.toNat n
theorem qS(n d:Nat):yZ n d none=d:=rfl
theorem xy(n d k:Nat):yZ n d (some (k:Int))=min k n:=by
 show(if (k:Int)<0 then ((k:Int)+(n:Int)).toNat else min (k:Int).toNat n)=min k n
 rw[abb 'b',Int.toNat_natCast]
end
end HT
namespace L2
open PySem PySem.Spec PyProof.Rows
abbrev TO:=St->Hp->(Option Int->Hp->Prop)->Prop
def PO(X:Cx)(e:Option Expr)(t:TO):Prop :=
 ∀(pins:List (Addr×Obj))(s:Shared)(σ:St)(H:Hp)(Q:Option Int->Hp->Prop),Inv X pins σ H s->t σ H Q->wpAny 'f' X.A (evalPart e X.env) (λu s'=>∃o H',Inv X pins σ H' s'/\IsPart u o/\Q o H') X.xe s
def L3:TO:=λ_ H Q=>Q none H
def RJ(t:TE):TO:=λσ H Q=>t σ H λx H1=>∃i,x=.int i/\Q (some i) H1
theorem intsAre_of{ns:List Int}:∀{us:List Value},Vals (ns.map V.int) us->IntsAre us ns:=by
 induction ns with
 |nil=>intro us r;rw[List.map_nil]at r;cases r;exact .nil
 |cons n ns ih =>
  intro us r
  rw[ach]at r
  cases r with
  |cons r1 r2 =>
   obtain⟨t,e⟩:=r1
   subst e
   exact .cons n t (ih r2)
section
variable{X:Cx}{e:Expr}{te:TE}{lo hi:Option Expr}{tl th:TO}{pos p2:Pos}
theorem fO:PO X none L3:=by
 intro pins s σ H Q I h
 rw[evalPart_none]
 exact abz ⟨none,H,I,.none,h⟩
theorem cJ(h:PE X e te):PO X (some e) (RJ te):=by
 intro pins s σ H Q I hw
 rw[evalPart_some]
 refine dJ (h pins s σ H _ I hw) λu s1 ⟨x,H1,I1,r1,q1⟩=>?_
 obtain⟨i,rfl,q⟩:=q1
 obtain⟨t,rfl⟩:=r1
 exact⟨some i,H1,I1,.int i t,q⟩
def Vf(X:Cx)(r:V->Option Int->Option Int->Hp->VK->Prop):Prop :=
 ∀(pins:List (Addr×Obj))(s:Shared)(σ:St)(H:Hp)(x:V)(v vl vu:Value)(lo hi:Option Int)(sl:Addr)(Q:VK),Inv X pins σ H s->RelV x v->s.heap.IsSliceOf sl vl vu .none->IsPart vl lo->IsPart vu hi->r x lo hi H Q->∃T id,typeLookup (.type T) "__getitem__"=pure (some (.builtin id))/\s.TypeIs v T/\wpAny 'f' X.A (getItem v (.ref sl)) (EP X pins σ Q) X.xe s
def tSl(r:V->Option Int->Option Int->Hp->VK->Prop)(te:TE)(tl th:TO):TE:=λσ H Q=>te σ H λx H1=>tl σ H1 λl H2=>th σ H2 λu H3=>r x l u H3 Q
theorem cG{r:V->Option Int->Option Int->Hp->VK->Prop}(hr:Vf X r)(he:PE X e te)(hl:PO X lo tl)(hu:PO X hi th):PE X (.Subscript e (.Slice lo hi none p2) pos) (tSl r te tl th):=by
 intro pins s σ H Q I h
 refine Subscript_ (dJ (he pins s σ H _ I h) λv s1 ⟨x,H1,I1,r1,q1⟩=>?_)
 refine wpAny_Slice (dJ (hl pins s1 σ H1 _ I1 q1) λvl s2 ⟨l,H2,I2,pl,q2⟩=>dJ (hu pins s2 σ H2 _ I2 q2) λvu s3 ⟨u,H3,I3,pu,q3⟩=>?_)
 rw[evalPart_none]
 refine abz ?_
 have I4:Inv X pins σ H3 {s3 with heap:=s3.heap.push {cls:=.type "slice",data:=.fields #[vl,vu,.none]}}:=I3.kept (t':=s3.toks) λb ob q=>abm _ q
 obtain⟨T,id,hT,ht,hg⟩:=hr pins {s3 with heap:=s3.heap.push {cls:=.type "slice",data:=.fields #[vl,vu,.none]}} σ H3 x v vl vu l u s3.heap.objs.size Q I4 r1 (Heap.IsSliceOf.new ..) pl pu q3
 show wpAny 'f' X.A (subscriptTail e (.Slice lo hi none p2) v (.ref s3.heap.objs.size)) (EP X pins σ Q) X.xe {s3 with heap:=s3.heap.push {cls:=.type "slice",data:=.fields #[vl,vu,.none]}}
 exact tail_any (ops:=[.ref s3.heap.objs.size,v]) ht hT hg (by with_unfolding_all rfl)
def aZ(xs:List V)(lo hi:Option Int):List V:=(xs.drop (HT.yZ xs.length 0 lo)).take (HT.yZ xs.length xs.length hi-HT.yZ xs.length 0 lo)
theorem gn(xs:List V)(lo hi:Option Int):(aZ xs lo hi).length<=xs.length:=by
 unfold aZ
 rw[abJ,acy]
 omega
end
def IZ(n:Nat)(i:Int):Option Nat:=if 0<=i then (if i<n then some i.toNat else none) else if -(n:Int)<=i then some (i+n).toNat else none
def fu{α:Type}(xs:List α)(i:Int):Option α:=(IZ xs.length i).bind λj=>xs[j]?
theorem FY{n:Nat}{i:Int}{j:Nat}(h:IZ n i=some j):seqIndex? i n=some j/\j<n/\-(n:Int)<=i/\i<n:=by
 unfold IZ at h
 by_cases h0:0<=i
 ·rw[abj h0]at h
  by_cases h1:i<n
  ·rw[abj h1]at h
   have e:i.toNat=j:=abx h
   exact⟨by rw[seqIndex_of h0 h1,e],by omega,by omega,h1⟩
  ·rw[abb h1]at h;cases h
 ·rw[abb h0]at h
  by_cases h1 : -(n:Int)<=i
  ·rw[abj h1]at h
   have e:(i+n).toNat=j:=abx h
   exact⟨by rw[seqIndex_neg 'b' h1,e],by omega,h1,by omega⟩
  ·rw[abb h1]at h;cases h
theorem AX{α:Type}{xs:List α}{i:Int}{v:α}(h:fu xs i=some v):∃j,seqIndex? i xs.length=some j/\xs[j]?=some v/\j<xs.length/\-(xs.length:Int)<=i/\i<xs.length:=by
 unfold fu at h
 cases e:IZ xs.length i with
 |none=>rw[e]at h;cases h
 |some j =>
  rw[e]at h
  obtain⟨h1,h2,h3,h4⟩:=FY e
  exact⟨j,h1,h,h2,h3,h4⟩
theorem bh{α:Type}{xs:List α}{j:Nat}{v:α}(h:xs[j]?=some v):fu xs (j:Int)=some v:=by
 have hj:j<xs.length:=(abd.mp h).1
 have e:IZ xs.length (j:Int)=some j:=by
  unfold IZ
  rw[abj 'b',abj 'b'];simp
 unfold fu;rw[e];exact h
theorem JC{α:Type}(xs:List α)(v:α):fu (xs++[v]) (-1)=some v:=by
 have hl:(xs++[v]).length=xs.length+1:=by simp
 have e:IZ (xs++[v]).length (-1)=some xs.length:=by
  unfold IZ
  rw[hl,abb 'c',abj 'b']
  congr 1
  omega
 unfold fu
 rw[e]
 show(xs++[v])[xs.length]?=some v
 simp
def AY(b:Expr):Prop:=∀o i,subscripted b false o i=operate [o,i] (getItem o i)
def QM(X:Cx)(r:R2):Prop :=
 ∀(value slice:Expr)(pins:List (Addr×Obj))(s:Shared)(σ:St)(H:Hp)(x y:V)(v u:Value)(Q:VK),Inv X pins σ H s->RelV x v->RelV y u->r x y H Q->subscripted slice false v u=operate [v,u] (getItem v u)->wpAny 'f' X.A (subscriptTail value slice v u) (EP X pins σ Q) X.xe s
def L4(X:Cx)(id:String)(r:V->List V->Hp->VK->Prop):Prop :=
 ∀(pins:List (Addr×Obj))(s:Shared)(σ:St)(H:Hp)(x:V)(xs:List V)(v:Value)(us:List Value)(Q:VK),Inv X pins σ H s->RelV x v->Vals xs us->r x xs H Q->wpAny 'f' X.A (call (.builtin id) (v::us)) (EP X pins σ Q) X.xe s
section
variable{X:Cx}{a b:Expr}{ta tb:TE}{pos:Pos}
theorem Aq{r:R2}(hr:QM X r)(ha:PE X a ta)(hb:PE X b tb)(hs:AY b):PE X (.Subscript a b pos) (LB r ta tb):=by
 intro pins s σ H Q I h
 exact Subscript_ (Oz ha hb I h λv u s2 x y H2 I2 rx ry q=>hr a b pins s2 σ H2 x y v u Q I2 rx ry q (hs _ _))
def OC(K:W.Frag):R2:=λx y H Q=>∃p xs i v,x=.ref p/\y=.int i/\aN K H p xs/\fu xs i=some v/\Q v H
def OD(K:W.Frag):R2:=λx y H Q=>∃p xs i v,x=.ref p/\y=.int i/\bD K H p xs/\fu xs i=some v/\Q v H
def V9:R2:=λx y H Q=>∃z i c,x=.str z/\y=.int i/\z.length<=sizeLine/\fu z.cps.toList i=some c/\Q (.str ⟨#[c]⟩) H
theorem L6:QM X (OC X.K):=by
 intro value slice pins s σ H x y v u Q I rx ry h hs
 obtain⟨p,xs,i,z,rfl,rfl,hq,he,q⟩:=h
 cases rx
 obtain⟨t,rfl⟩:=ry
 obtain⟨its,r,pl,hz⟩:=I.list hq
 obtain⟨j,h1,h2,h3,h4,h5⟩:=AX he
 obtain⟨w,ew,rw'⟩:=r.get h2
 have hl:=r.length
 have hn:=tY
 have fin:EP X pins σ Q w s:=⟨z,H,I,rw',q⟩
 by_cases h0:0<=i
 ·have hj:i.toNat=j:=by
   rw[seqIndex_of h0 h5]at h1
   exact abx h1
  exact item_listR pl.isList h0 'b' (by rw[hj];simpa using ew) fin hs
 ·have hj:(i+(its.toArray.size:Int)).toNat=j:=by
   rw[seqIndex_neg 'b' h4]at h1
   rw[abg,←hl]
   exact abx h1
  exact subscriptTail_builtinR (x:=w) pl.isList.typeIs slot_list_getitem.lookup
   (wpAny_getItem_list_neg (Q:=λr s'=>r=w/\EP X pins σ Q r s') pl.isList 'b' (by rw[abg]<;>omega) 'b' (by rw[hj];simpa using ew) ⟨rfl,fin⟩) hs
theorem OE:QM X (OD X.K):=by
 intro value slice pins s σ H x y v u Q I rx ry h hs
 obtain⟨p,xs,i,z,rfl,rfl,hq,he,q⟩:=h
 cases rx
 obtain⟨t,rfl⟩:=ry
 obtain⟨its,r,pl,hz⟩:=I.tuple hq
 obtain⟨j,h1,h2,h3,h4,h5⟩:=AX he
 obtain⟨w,ew,rw'⟩:=r.get h2
 have hl:=r.length
 have hn:=tY
 have fin:EP X pins σ Q w s:=⟨z,H,I,rw',q⟩
 exact subscriptTail_builtinR (x:=w) pl.typeIs slot_tuple_getitem.lookup
  (getItem_tuple (j:=j) (Q:=λr s'=>r=w/\EP X pins σ Q r s') pl 'b' 'b' (by rw[abg,←hl];exact h1) (by simpa using ew) ⟨rfl,fin⟩) hs
theorem AZ:QM X V9:=by
 intro value slice pins s σ H x y v u Q I rx ry h hs
 obtain⟨z,i,c,rfl,rfl,hz,he,q⟩:=h
 obtain⟨t,rfl⟩:=rx
 obtain⟨t',rfl⟩:=ry
 obtain⟨j,h1,h2,h3,h4,h5⟩:=AX he
 have hl:z.cps.toList.length=z.length:=by simp[Str.length]
 rw[hl]at h1 h4 h5
 have hn:=tY
 exact tail_any (typeIs_str s z t) slot_str_getitem.lookup (getItem_str (c:=c) (by
  have e1:decide (i < -(2 ^ 63:Int))=false:=abn 'b'
  have e2:decide (i>=2 ^ 63)=false:=abn 'b'
  rw[e1,e2,Bool.or_false]) (by rw[h1];simpa using h2) ⟨.str ⟨#[c]⟩,H,I.tok _,⟨_,rfl⟩,q⟩) hs
theorem Ep(its:List Value)(n j:Nat)(u:Value):Obj.mapSeq (·.setIfInBounds j u) {cls:=.type "list",data:=.seq its.toArray n}={cls:=.type "list",data:=.seq (its.set j u).toArray n}:=by
 simp[Obj.mapSeq]
theorem Inv.lst{pins:List (Addr×Obj)}{σ:St}{H:Hp}{s:Shared}{p:Addr}{xs:List V}(I:Inv X pins σ H s)(h:H p=some (.lst xs)):∃(its:List Value)(n:Nat),Vals xs its/\s.heap.get? p=some {cls:=.type "list",data:=.seq its.toArray n}/\xs.length<=sizeLine:=by
 obtain⟨z,its,n,r,e⟩:=I.hok p _ h
 exact⟨its,n,r,e,z⟩
theorem Inv.OG{pins:List (Addr×Obj)}{σ:St}{H:Hp}{s:Shared}{p:Addr}{xs ys:List V}{its its':List Value}{n n':Nat}{f:Obj->Obj}(I:Inv X pins σ H s)(h:H p=some (.lst xs))(ho:s.heap.get? p=some {cls:=.type "list",data:=.seq its.toArray n})(hf:f {cls:=.type "list",data:=.seq its.toArray n}={cls:=.type "list",data:=.seq its'.toArray n'})(r:Vals ys its')(hz:ys.length<=sizeLine)(t:Nat):Inv X pins σ (upd H p (.lst ys)) {s with heap:=s.heap.update p f,toks:=t}:=by
 have e:(s.heap.update p f).get? p=some {cls:=.type "list",data:=.seq its'.toArray n'}:=by
  rw[Heap.get?_update_self f ho (by rw[hf]<;>rfl),hf]
 refine I.write (x:=p) (e:=p) (by rw[h];trivial) (.inl rfl) (λb u hb q=>(ab3 _ _ (acu hb)).trans q) ⟨_,e⟩ ?_
 exact⟨hz,its',n',r,e⟩
def RK:V->V->V->Hp->(Hp->Prop)->Prop:=λo i v H Q=>∃p xs k j,o=.ref p/\i=.int k/\H p=some (.lst xs)/\IZ xs.length k=some j/\Q (upd H p (.lst (xs.set j v)))
theorem set_list:Ru X RK:=by
 intro pins s σ H o i v ov iv u Q I ro ri rv h
 obtain⟨p,xs,k,j,rfl,rfl,hp,hj,q⟩:=h
 cases ro
 obtain⟨t,rfl⟩:=ri
 obtain⟨its,n,r,ho,hz⟩:=I.lst hp
 obtain⟨h1,h2,h3,h4⟩:=FY hj
 have hl:=r.length
 have hn:=tY
 have I':Inv X pins σ (upd H p (.lst (xs.set j v))) {s with heap:=s.heap.update p (Obj.mapSeq (·.setIfInBounds j u))} :=
  I.OG hp ho (Ep its n j u) (r.set rv j) (by rw[List.length_set];exact hz) s.toks
 by_cases h0:0<=k
 ·have hk:k.toNat=j:=by
   rw[seqIndex_of h0 h4]at h1
   exact abx h1
  exact W.ki_setAt ho h0 'b' (by rw[abg,←hl];exact h4) (by rw[hk];exact⟨_,I',q⟩)
 ·have hk:(k+(its.toArray.size:Int)).toNat=j:=by
   rw[seqIndex_neg 'b' h3]at h1
   rw[abg,←hl]
   exact abx h1
  exact W.ki_setBack ho 'b' (by rw[abg,←hl];exact h3) 'b' (by rw[hk];exact⟨_,I',q⟩)
theorem A6(lo hi:Option Int)(n:Nat):(sliceBounds lo hi none n).1=((HT.yZ n 0 lo:Nat):Int)/\(sliceBounds lo hi none n).2.1=((HT.yZ n n hi:Nat):Int)/\(sliceBounds lo hi none n).2.2=1:=by
 refine⟨?_,?_,O⟩
 ·cases lo with
  |none=>simp[sliceBounds,HT.yZ]
  |some i =>
   simp only[sliceBounds,HT.yZ,Option.getD_none,show(1:Int)>0 by decide,acz]
   by_cases h:i<0
   ·simp only[h,acz]<;>omega
   ·simp only[h,acH]<;>omega
 ·cases hi with
  |none=>simp[sliceBounds,HT.yZ]
  |some i =>
   simp only[sliceBounds,HT.yZ,Option.getD_none,show(1:Int)>0 by decide,acz]
   by_cases h:i<0
   ·simp only[h,acz]<;>omega
   ·simp only[h,acH]<;>omega
theorem zg(its:List Value)(lo hi:Option Int):slicePick its.toArray lo hi none=((its.drop (HT.yZ its.length 0 lo)).take (HT.yZ its.length its.length hi-HT.yZ its.length 0 lo)).toArray:=by
 obtain⟨h1,h2,h3⟩:=A6 lo hi its.toArray.size
 unfold slicePick
 rw[h1,h2,h3]
 simp only[sliceRange_one,pick_run,abg]<;>rfl
def RL(K:W.Frag):V->Option Int->Option Int->Hp->VK->Prop:=λx lo hi H Q=>∃a xs,x=.ref a/\aN K H a xs/\∀p,H p=none->Q (.ref p) (upd H p (.lst (aZ xs lo hi)))
theorem L7:Vf X (RL X.K):=by
 intro pins s σ H x v vl vu lo hi sl Q I rx hs pl pu h
 obtain⟨a,xs,rfl,hx,q⟩:=h
 cases rx
 obtain⟨its,r,ht,hz⟩:=I.list hx
 have hlen:=r.length
 refine⟨"list",_,slot_list_getitem.lookup,ht.isList.typeIs,?_⟩
 refine wpAny_getItem_list_slice ht.isList hs pl pu .none (by simp) ?_ (by rw[abg]<;>omega)
 rw[zg,←hlen]
 refine⟨.ref s.heap.objs.size,_,I.laid (t':=s.toks) (o:=.lst (aZ xs lo hi)) (λb ob q=>abm _ q) (abh _) ?_,rfl,q _ (I.hok.fresh (abh _))⟩
 exact⟨abv (gn xs lo hi) hz,_,0,(r.drop (HT.yZ xs.length 0 lo)).take (HT.yZ xs.length xs.length hi-HT.yZ xs.length 0 lo),abC _ rfl⟩
def dN:V->Bool
 | .non=>true
 | .bl _=>true
 | .int _=>true
 | .str _=>true
 |_=>false
def Ar:V->V->Bool
 | .non,.non=>true
 | .bl a,.bl b=>a==b
 | .bl a,.int b=>(if a then 1 else 0)==b
 | .int a,.bl b=>a==(if b then 1 else 0)
 | .int a,.int b=>a==b
 | .str a,.str b=>a==b
 |_,_=>false
theorem A9{A:Around}{s:Shared}{y x:V}{u v:Value}(ry:RelV y u)(rx:RelV x v)(fy:dN y=true)(fx:dN x=true):SeqAt.EqAt A s u v (Ar y x):=by
 cases y with
 |non =>
  cases ry
  cases x with
  |non=>cases rx;exact acE _
  |bl b=>cases rx;exact SeqAt.EqAt.none_bool b
  |int b=>obtain⟨t,rfl⟩:=rx;exact SeqAt.EqAt.none_int b t
  |str b=>obtain⟨t,rfl⟩:=rx;exact SeqAt.EqAt.none_str b t
  |_=>exact absurd (show false=true from fx) abB
 |bl a =>
  cases ry
  cases x with
  |non=>cases rx;exact SeqAt.EqAt.bool_none a
  |bl b=>cases rx;exact SeqAt.EqAt.bool_bool a b
  |int b=>obtain⟨t,rfl⟩:=rx;exact SeqAt.EqAt.bool_int a b t
  |str b=>obtain⟨t,rfl⟩:=rx;exact SeqAt.EqAt.bool_str a b t
  |_=>exact absurd (show false=true from fx) abB
 |int a =>
  obtain⟨t',rfl⟩:=ry
  cases x with
  |non=>cases rx;exact SeqAt.EqAt.int_none a t'
  |bl b=>cases rx;exact SeqAt.EqAt.int_bool a t' b
  |int b=>obtain⟨t,rfl⟩:=rx;exact SeqAt.EqAt.int_int a t' b t
  |str b=>obtain⟨t,rfl⟩:=rx;exact SeqAt.EqAt.int_str a t' b t
  |_=>exact absurd (show false=true from fx) abB
 |str a =>
  obtain⟨t',rfl⟩:=ry
  cases x with
  |non=>cases rx;exact SeqAt.EqAt.str_none a t'
  |bl b=>cases rx;exact SeqAt.EqAt.str_bool a t' b
  |int b=>obtain⟨t,rfl⟩:=rx;exact SeqAt.EqAt.str_int a t' b t
  |str b=>obtain⟨t,rfl⟩:=rx;exact SeqAt.EqAt.str_str a t' b t
  |_=>exact absurd (show false=true from fx) abB
 |_=>exact absurd (show false=true from fy) abB
def Vg(x:V)(u:Value):Bool:=match u with
 | .none=>Ar .non x
 | .bool b=>Ar (.bl b) x
 | .int i _=>Ar (.int i) x
 | .str z _=>Ar (.str z) x
 |_=>false
theorem JD{x y:V}{u:Value}(r:RelV y u)(f:dN y=true):Vg x u=Ar y x:=by
 cases y with
 |non=>cases r;rfl
 |bl b=>cases r;rfl
 |int i=>obtain⟨t,rfl⟩:=r;rfl
 |str z=>obtain⟨t,rfl⟩:=r;rfl
 |_=>exact absurd (show false=true from f) abB
theorem CO{A:Around}{s:Shared}{x:V}{v:Value}(rx:RelV x v)(fx:dN x=true):∀{xs:List V}{us:List Value},Vals xs us->xs.all dN=true->∀u∈us,SeqAt.EqAt A s u v (Vg x u)
 |_,_,.nil,_=>λu hu=>by cases hu
 |y::xs,u::us,.cons r t,f=>λu' hu=>by
  rw[acO,Bool.and_eq_true]at f
  rcases abt.mp hu with rfl|hu
  ·rw[JD r f.1];exact A9 r rx f.1 fx
  ·exact CO rx fx t f.2 u' hu
theorem Ba:oY X (compareOp .NotIn) (λx y H Q=>∃i j,x=.str i/\y=.str j/\Q (.bl (!(!(Builtin.Str.occurrences j i 0 j.length 1).isEmpty))) H):=by
 intro pins s σ H x y v u Q I rx ry h
 obtain⟨i,j,rfl,rfl,q⟩:=h
 obtain⟨t,rfl⟩:=rx
 obtain⟨t',rfl⟩:=ry
 exact notIn_str ⟨.bl _,H,I,rfl,q⟩
theorem Bb:fk X (.builtin "len") (λxs H Q=>∃p ys,xs=[.ref p]/\(aN X.K H p ys\/bD X.K H p ys)/\Q (.int ys.length) H):=by
 intro pins s σ H xs us Q I r h
 obtain⟨p,ys,rfl,hq,q⟩:=h
 obtain⟨u,rfl,rx⟩:=vals1 r
 cases rx
 have hn:=tY
 rcases hq with hq|hq
 ·obtain⟨its,r',pl,hz⟩:=I.list hq
  have hlen:=r'.length
  exact Calls.call_len_list pl.isList (by simp only[abg]<;>omega) ⟨.int ys.length,H,I.tok _,⟨s.toks+1,by rw[abg,hlen]⟩,q⟩
 ·obtain⟨its,r',pl,hz⟩:=I.tuple hq
  have hlen:=r'.length
  exact len_tuple pl (by simp only[abg]<;>omega) ⟨.int ys.length,H,I.tok _,⟨s.toks+1,by rw[abg,hlen]⟩,q⟩
theorem d9:fk X (.builtin "len") (λxs H Q=>∃z,xs=[.str z]/\z.length<=sizeLine/\Q (.int z.length) H):=by
 intro pins s σ H xs us Q I r h
 obtain⟨z,rfl,hz,q⟩:=h
 obtain⟨u,rfl,t,rfl⟩:=vals1 r
 have hn:=tY
 exact len_str 'b' ⟨.int z.length,H,I.tok _,⟨_,rfl⟩,q⟩
theorem Bc:fk X (.type "list") (λxs H Q=>∃p ys,xs=[.ref p]/\(aN X.K H p ys\/bD X.K H p ys)/\∀l,H l=none->Q (.ref l) (upd H l (.lst ys))):=by
 intro pins s σ H xs us Q I r h
 obtain⟨p,ys,rfl,hq,q⟩:=h
 obtain⟨u,rfl,rx⟩:=vals1 r
 cases rx
 have fin:∀(its:List Value),Vals ys its->ys.length<=sizeLine->∀(h':Heap)(c':Nat),(∀b o',s.heap.get? b=some o'->h'.get? b=some o')->h'.get? s.heap.objs.size=some {cls:=.type "list",dict:=none,data:=.seq its.toArray c',slots:=#[]}->EP X pins σ Q (.ref s.heap.objs.size) {s with heap:=h'}:=λits r' hz h' c' kp e =>
  ⟨.ref s.heap.objs.size,_,I.laid (t':=s.toks) kp (abh _) (show fU X.prog X.w _ h' _ (.lst ys) from⟨hz,its,c',r',e⟩),rfl,q _ (I.hok.fresh (abh _))⟩
 rcases hq with hq|hq
 ·obtain⟨its,r',pl,hz⟩:=I.list hq
  have hlen:=r'.length
  obtain⟨o,ho,hc,n,hd⟩:=pl.isList
  exact call_list_seq p (.inl rfl) ho hc hd (λh' c' kp e=>fin its r' hz h' c' kp e) (by simp only[abg]<;>omega)
 ·obtain⟨its,r',pl,hz⟩:=I.tuple hq
  have hlen:=r'.length
  obtain⟨o,ho,hc,n,hd⟩:=pl
  exact call_list_seq p (.inr rfl) ho hc hd (λh' c' kp e=>fin its r' hz h' c' kp e) (by simp only[abg]<;>omega)
theorem zh:fk X (.type "tuple") (λxs H Q=>∃p ys,xs=[.ref p]/\((aN X.K H p ys/\∀l,H l=none->Q (.ref l) (upd H l (.tup ys)))\/(bD X.K H p ys/\Q (.ref p) H))):=by
 intro pins s σ H xs us Q I r h
 obtain⟨p,ys,rfl,h⟩:=h
 obtain⟨u,rfl,rx⟩:=vals1 r
 cases rx
 rcases h with ⟨hq,q⟩|⟨hq,q⟩
 ·obtain⟨its,r',pl,hz⟩:=I.list hq
  have hlen:=r'.length
  refine call_tuple_list pl.isList (λh' kp=>?_) (by simp only[abg]<;>omega)
  have I1:Inv X pins σ H {s with heap:=h'}:=I.kept (t':=s.toks) kp
  have I2:Inv X pins σ (upd H h'.objs.size (.tup ys)) {s with heap:=h'.push {cls:=.type "tuple",data:=.seq its.toArray}} :=
   I1.laid (t':=s.toks) (λb o e=>abm _ e) (abh _) (show fU X.prog X.w _ _ _ (.tup ys) from⟨hz,its,r',IsTup.new _ _⟩)
  exact⟨.ref h'.objs.size,_,I2,O,q _ (I1.hok.fresh (abh _))⟩
 ·obtain⟨its,r',pl,hz⟩:=I.tuple hq
  exact call_tuple_same pl ⟨.ref p,H,I,rfl,q⟩
def tyV(K:W.Frag)(T:String)(x:V)(H:Hp):Prop:=match x with
 | .str _=>T="str"
 | .int _=>T="int"
 | .ref p=>(T="list"/\∃xs,aN K H p xs)\/(T="tuple"/\∃o,K.lookup p=some o/\o.cls=.type "tuple"/\o.dict=none)\/
   (T="dict"/\((∃kvs,H p=some (.dK kvs))\/∃kvs,H p=some (.dT kvs)))\/(T="set"/\∃S n,H p=some (.set S n))
 |_=>False
theorem OH{pins:List (Addr×Obj)}{σ:St}{H:Hp}{s:Shared}{T:String}{x:V}{v:Value}(I:Inv X pins σ H s)(r:RelV x v)(ty:tyV X.K T x H):s.TypeIs v T/\∀a,v=.ref a->∃ob,s.heap.get? a=some ob/\ob.dict=none:=by
 cases x with
 |str z =>
  obtain⟨t,rfl⟩:=r
  cases(show T="str" from ty)
  exact⟨typeIs_str s z t,λ_ e=>nomatch e⟩
 |int i =>
  obtain⟨t,rfl⟩:=r
  cases(show T="int" from ty)
  exact⟨typeIs_int s i t,λ_ e=>nomatch e⟩
 |ref p =>
  cases r
  rcases ty with ⟨rfl,xs,hq⟩|⟨rfl,o,hk,hc,hd⟩|⟨rfl,hk⟩|⟨rfl,S,n,hk⟩
  ·obtain⟨its,_,pl,_⟩:=I.list hq
   refine⟨pl.isList.typeIs,λa e=>?_⟩
   cases e
   obtain⟨o,n,e,c,hd,_⟩:=pl
   exact⟨o,e,hd⟩
  ·refine⟨⟨o,I.tR p o hk,hc⟩,λa e=>?_⟩
   cases e
   exact⟨o,I.tR _ o hk,hd⟩
  ·have z:∃o,s.heap.get? p=some o/\o.ExactDict:=by
    rcases hk with ⟨kvs,hk⟩|⟨kvs,hk⟩
    ·obtain⟨_,_,_,_,o,_,_,e,ex,_⟩:=I.hok p _ hk
     exact⟨o,e,ex⟩
    ·obtain⟨_,_,_,_,o,_,_,e,ex,_⟩:=I.hok p _ hk
     exact⟨o,e,ex⟩
   obtain⟨o,e,ex⟩:=z
   refine⟨⟨o,e,ex.1⟩,λa e2=>?_⟩
   cases e2
   exact⟨o,e,ex.2.1⟩
  ·obtain⟨o,_,_,_,e,ex,_⟩:=I.hok p _ hk
   refine⟨⟨o,e,ex.1⟩,λa e2=>?_⟩
   cases e2
   exact⟨o,e,ex.2.1⟩
 |_=>exact False.elim ty
def tBM(K:W.Frag)(T:String)(r:V->List V->Hp->VK->Prop)(to:TE)(t:TA):TE:=λσ H Q=>to σ H λx H1=>tyV K T x H1/\t σ H1 λxs H2=>r x xs H2 Q
variable{o e:Expr}{es:List Expr}{to:TE}{t:TA}{name:Str}{apos cpos:Pos}{T id:String}{r:V->List V->Hp->VK->Prop}
theorem RM(pa:PlainAttrs T)(slot:Slot T name id)(hty:typeOf (.builtin id)=pure (.type "method_descriptor"))(hm:L4 X id r)(ho:PE X o to)(ha:PA X (e::es) t)(hbase:attributeBase o name X.env (eval o X.env)=eval o X.env:=by rfl)(hfew:((backTo cpos (starEach (e::es) X.env)).all (λx=>!x.1)&&(backToKw cpos (keywordEach [] X.env)).all (λx=>x.1.isSome)
   && decide ((e::es).length+([]:List Keyword).length+(if ([]:List Keyword).isEmpty then 0 else 1)<30))=true:=by rfl)(hline:(apos.endLine==cpos.line)=true:=by rfl)(hs:starEach (e::es) X.env=(false,eval e X.env)::starEach es X.env:=by rfl)(hplain:(backTo cpos (starEach es X.env)).any (·.1)=false:=by rfl):PE X (.Call (.Attribute o name apos) (e::es) [] cpos) (tBM X.K T r to t):=by
 intro pins s σ H Q I h
 refine wpAny_Call_method_late hbase hfew hline rfl (dJ (ho pins s σ H _ I h) λv s1 ⟨x,H1,I1,r1,ty,q1⟩=>?_)
 obtain⟨h1,h2⟩:=OH I1 r1 ty
 refine⟨T,id,pa,slot,hty,h1,h2,?_⟩
 have hA:=ha cpos pins s1 σ H1 _ I1 q1
 rw[hs]at hA⊢
 refine Calls.callWith_builtin (by show(false||(backTo cpos (starEach es X.env)).any (·.1))=false;rw[hplain]<;>rfl) (Calls.evalArgs_plain ?_)
 exact dJ hA λus s2 ⟨vs,H2,I2,r2,q2⟩=>hm pins s2 σ H2 x vs v us Q I2 r1 r2 q2
end
def MtM(X:Cx)(id:String)(r:V->List V->Hp->VK->Prop):Prop :=
 ∀(pins:List (Addr×Obj))(s:Shared)(σ:St)(H:Hp)(x:V)(xs:List V)(v:Value)(us:List Value)(Q:VK),Inv X pins σ H s->RelV x v->Vals xs us->r x xs H Q->wpAny 'f' X.A (call (.builtin id) (v::us)) (EP X pins σ Q) X.xe s
theorem Vals.one:∀{x:V}{us:List Value},Vals [x] us->∃u,us=[u]/\RelV x u
 |_,_,.cons r .nil=>⟨_,rfl,r⟩
theorem Vals.reverse{xs:List V}{us:List Value}(h:Vals xs us):Vals xs.reverse us.reverse:=by
 induction h with
 |nil=>exact .nil
 |cons r t ih=>rw[List.reverse_cons,List.reverse_cons];exact Vals.append ih (.cons r .nil)
section
variable{X:Cx}{pins:List (Addr×Obj)}{σ:St}{H:Hp}{s:Shared}{l b:Addr}{xs ys zs:List V}
theorem Inv.Wa{its its':List Value}{n:Nat}{f:Array Value->Array Value}{t':Nat}(I:Inv X pins σ H s)(hH:H l=some (.lst xs))(e:s.heap.get? l=some {cls:=.type "list",data:=.seq its.toArray n})(hf:f its.toArray=its'.toArray)(hv:Vals ys its')(hz:ys.length<=sizeLine):Inv X pins σ (upd H l (.lst ys)) {s with heap:=s.heap.update l (Obj.mapSeq f),toks:=t'}:=by
 have q:=PySem.IsL.update e f
 rw[hf]at q
 refine I.write (x:=l) (e:=l) (by rw[hH];exact trivial) (.inl rfl) (λb' u hb hu=>(ab3 s.heap (Obj.mapSeq f) (acu hb)).trans hu) ⟨_,q⟩ ?_
 exact⟨hz,its',_,hv,q⟩
theorem Inv.OI{its:List Value}{t':Nat}(I:Inv X pins σ H s)(hv:Vals ys its)(hz:ys.length<=sizeLine):Inv X pins σ (upd H s.heap.objs.size (.lst ys)) {s with heap:=s.heap.push {cls:=.type "list",data:=.seq its.toArray},toks:=t'} :=
 I.laid (λ_ _ q=>abm _ q) (abh _) ⟨hz,its,0,hv,abC _ rfl⟩
theorem Inv.fresh(I:Inv X pins σ H s):H s.heap.objs.size=none:=I.hok.fresh (abh _)
theorem Inv.OJ(I:Inv X pins σ H s)(hH:H l=some (.lst xs)):xs.length<=sizeLine/\∃(its:List Value)(n:Nat),Vals xs its/\xs.length=its.length/\s.heap.get? l=some {cls:=.type "list",data:=.seq its.toArray n}:=by
 obtain⟨z,its,n,r,e⟩:=I.hok l _ hH
 exact⟨z,its,n,r,r.length,e⟩
end
section
variable{X:Cx}
def L8:V->List V->Hp->VK->Prop:=λx vs H Q=>∃l xs y,x=.ref l/\vs=[y]/\H l=some (.lst xs)/\xs.length<sizeLine/\Q .non (upd H l (.lst (xs++[y])))
theorem bI:MtM X "list.append" L8:=by
 intro pins s σ H x vs v us Q I rx rv h
 obtain⟨l,xs,y,rfl,rfl,hH,hz,q⟩:=h
 cases rx
 obtain⟨u,rfl,ru⟩:=rv.one
 obtain⟨z,its,n,r,hl,e⟩:=I.OJ hH
 refine call_meets F.slot_list_append ⟨_,e,rfl⟩ F.entry_list_append (F.args_list_append_2 _ _) (PySem.list_append l its.toArray n u (by rw[abg];omega)) ⟨e,?_⟩
 refine⟨.non,_,I.Wa (its':=its++[u]) hH e (by simp) (r.append (.cons ru .nil)) ?_,rfl,q⟩
 rw[abq,List.length_singleton]
 omega
def Wb:R2:=λx y H Q=>∃l b xs zs,x=.ref l/\y=.ref b/\H l=some (.lst xs)/\H b=some (.lst zs)/\xs.length+zs.length<=sizeLine/\∀p,H p=none->Q (.ref p) (upd H p (.lst (xs++zs)))
theorem ef:oY X (binaryOp .Add) Wb:=by
 intro pins s σ H x y v u Q I rx ry h
 obtain⟨l,b,xs,zs,rfl,rfl,hH,hB,hz,q⟩:=h
 cases rx
 cases ry
 obtain⟨z,its,n,r,hl,e⟩:=I.OJ hH
 obtain⟨z2,its2,n2,r2,hl2,e2⟩:=I.OJ hB
 refine PySem.P.add_list e e2 ?_ (by rw[abg,abg];omega)
 have ea:its.toArray++its2.toArray=(its++its2).toArray:=by simp
 rw[ea]
 exact⟨.ref _,_,I.OI (t':=s.toks) (r.append r2) (by rw[abq];omega),rfl,q _ I.fresh⟩
end
section
variable{prog:Program}{w:World}{A:Around}{E:Value->Shared->Prop}{s:Shared}
set_option maxRecDepth 100000 in
end
section
variable{X:Cx}
end
end L2
namespace Att
open PySem PySem.W PySem.Calls PyProof.Rows
theorem wo{P:Params}{h:Heap}:∀(ns:List Int)(vs:List Value),WellAll P h vs (ns.map WData.int)->IntsAre vs ns:=by
 intro ns
 induction ns with
 |nil =>
  intro vs w
  rw[List.map_nil]at w
  cases w
  exact .nil
 |cons n ns ih =>
  intro vs w
  rw[ach]at w
  cases w with
  |cons a b =>
   cases a
   exact .cons _ _ (ih _ b)
theorem Hu{l:OpenLaw}{n:Nat}(hn:l.most=some n){P:Params}{h:Heap}{args:List WData}{vals:List Value}(hpre:l.row.toRowW.claim.pre args=true)(hwl:WellAll P h vals args):∃a vs ns,vals=[Value.ref a]/\args=[WData.list (ns.map WData.int)]/\h.get? a=some {cls:=.type "list",data:=.seq vs.toArray}/\IntsAre vs ns/\ns.length<=n:=by
 have hsh:WShape.hasAll [] args [.list .int]=true:=(pre_splitW hpre).1
 have hc:l.pre.holds [] {args:=args}=true:=(pre_splitW hpre).2
 obtain⟨d,r,rfl,h1,h2⟩:=hasAllW_cons hsh
 obtain rfl:=hasAllW_nil h2
 obtain⟨xs,rfl,h3⟩:=hasW_list h1
 obtain⟨ns,rfl⟩:=items_int h3
 have hlen:ns.length<=n:=by
  unfold OpenLaw.pre at hc
  have h4:(WTm.not (.lt (.lit (.int (n:Int))) (.len (.arg 0)))).holds [] {args:=[.list (ns.map .int)]}=true:=by
   have h4:=(holds_andW hc).1
   rw[hn]at h4
   exact h4
  have h5:=condW_of h4 (w_not (w_lt w_lit (w_len_list (w_arg rfl))))
  rw[aa9]at h5
  refine Nat.le_of_not_lt λq=>?_
  have q':(n:Int)<((ns.length:Nat):Int):=by omega
  first
   | (rw[abo q']at h5;exact absurd h5 'c')
   | (simp at h5;omega)
 cases hwl with
 |cons w1 w2 =>
  cases w2
  cases w1 with
  |list ho hall=>exact⟨_,_,ns,rfl,rfl,ho,wo ns _ hall,hlen⟩
theorem Hv(l:OpenLaw)(args:List WData):l.row.toRowW.claim.post args (.bool true) args=true :=
 postW_of (r:=l.row.toRowW) (X:=(true==true))
  (show WShape.has [] (.bool true) .bool=true by first|rfl|decide|simp[WShape.has,WShape.arms,WShape.armsAll])
  (show(WTm.eq .res (.lit (.bool true))).value [] {args:=args,res:=some (.bool true),after:=args}=some (.bool (true==true)) from w_eq_bool (w_res rfl) w_lit) rfl
theorem CP{l:OpenLaw}{n:Nat}{q:Program}{loose:List Str}{XP:(Str->Option Value)->Heap->Prop}{YP:World->Heap->Prop}{d:DefRec}(hn:l.most=some n)(hdf:d.params.defaults=[])(call:∀(w:World)(s₀ s₁:Shared)(mg mb:Str->Option Value)(fa:Addr)(o:Obj)(pm cd doc:Value)(a:Addr)(vs:List Value)(ns:List Int),Ground q loose [] XP w s₀ mg mb s₁.heap->YP w s₁.heap->s₁.heap.get? fa=some o->o.data=.func (docDef d.name d.params d.body d.scope pm cd doc)->s₁.heap.CodeRec cd d.name->mg d.name=some (.ref fa)->s₁.heap.get? a=some {cls:=.type "list",data:=.seq vs.toArray}->IntsAre vs ns->ns.length<=n->s₁.gens = #[]->codeAny (model l.prog w) callerA (.call (.ref fa) ⟨[.ref a],[]⟩) (λr s'=>r=.ok (.ret (.bool true))/\OldK s₁.heap s'.heap/\s'.os=s₁.os/\AllBare s'.gens) s₁):WalkO q loose XP YP l.row.toRowW d [] (λf vs=>PySem.call f vs):=by
 intro w s₀ s₁ mg mb G Y fa o pm cd doc dV kV ho hd hcd hD hmg hg args vals as hpre hlay hrd hwl hlo
 obtain rfl:dV=.none:=Dflts.none hD hdf
 obtain rfl:kV=.none:=Dflts.noKw hD
 obtain⟨a,vs,ns,rfl,rfl,hobj,hints,hlen⟩:=Hu hn hpre hwl
 refine enter_call (codeAny_mono (call w s₀ s₁ mg mb fa o pm cd doc a vs ns G Y ho (fd_plain hd) hcd hmg hobj hints hlen hg) λr s' hq=>?_)
 obtain⟨rfl,h2,h3,h4⟩:=hq
 exact⟨.inl ⟨.bool true,.bool true,[],rfl,λ_=>rfl,.bool true,Hv l _,λ_=>⟨List.Pairwise.nil,λ_ hm=>(nomatch hm)⟩⟩,h2,h3,h4⟩
section
variable{prog:Program}{w:World}{A:Around}{E:Value->Shared->Prop}{s:Shared}{K:Frag}
end
end Att
namespace L2
open PySem PySem.Spec PyProof.Rows
theorem As:∀{vs:List Value}{ns:List Int},IntsAre vs ns->Vals (ns.map V.int) vs
 |_,_,.nil=>.nil
 |_,_,.cons n t h=>.cons ⟨t,rfl⟩ (As h)
def OL(H:Hp):Prop:=∀b,H b=none\/∃o xs,H b=some (.Ef o (.lst xs))
theorem JE{P:Program}{w:World}{K:W.Frag}{mg mb:Str->Option Value}{CX:Hr}{k:Nat}{fa a:Addr}{fd:FuncData}{x:Str}{sp:Sp}{s₁:Shared}{vs:List Value}{ns:List Int}(KX:K.In s₁.heap)(hns:s₁.heap.Ns mainGlobals mg)(hb:s₁.heap.Ns builtinsNs mb)(hbb:∀x:Str,x ≠ "__name__"->mb x=bootBuiltins x)(hlim:s₁.heap.NoLimit)(hg:s₁.gens = #[])(ha:s₁.heap.get? a=some {cls:=.type "list",data:=.seq vs.toArray})(hi:IntsAre vs ns)(hl:ns.length<=sizeLine)(hr:dM k callerA)(F:∀base:Heap,K.In base->base.Ns mainGlobals mg->bu P w K mg base CX k fa fd [x] sp)(hbind:∀(s:Shared)(u:Value),BindsTo s fd ⟨[u],[]⟩ [(x,u)])(IY:∀H:Hp,OL H->aN K H a (ns.map V.int)->sp [.ref a] H (λv _=>v=.bl true) λ_ _ _=>False)(Wc:∀H e s',CX [] H s₁ (λ_ _ _=>False) e s'->False):codeAny (model P w) callerA (.call (.ref fa) ⟨[.ref a],[]⟩) (λr s'=>r=.ok (.ret (.bool true))/\OldK s₁.heap s'.heap/\s'.os=s₁.os/\AllBare s'.gens) s₁:=by
 have rv:=As hi
 have Wd:=hi.length
 have core:∀H:Hp,OL H->aN K H a (ns.map V.int)->tS P w H s₁.heap->(∀b,H b≠none->b=a)->(H a≠none->K.lookup a=none)->codeAny (model P w) callerA (.call (.ref fa) ⟨[.ref a],[]⟩) (λr s'=>r=.ok (.ret (.bool true))/\OldK s₁.heap s'.heap/\s'.os=s₁.os/\AllBare s'.gens) s₁:=by
  intro H hO hS hok hA hK
  have FZ:∀{b:Addr}{o:Obj},s₁.heap.get? b=some o->H b=none->(AR s₁.heap H).get? b=some o:=λe n=>Jl e n
  have RI:∀{b:Addr}{o:Obj}{es:Array DictEntry}{ep:Nat},s₁.heap.get? b=some o->o.data=.dict es ep->H b=none:=λ{b o es ep} e d=>by
   cases q:H b with
   |none=>rfl
   |some u =>
    have e':b=a:=hA b (by rw[q];simp)
    subst e'
    rw[ha]at e;cases e
    have d':Data.seq vs.toArray _=Data.dict es ep:=d
    cases d'
  have Vh:∀{b:Addr}{m:Str->Option Value},s₁.heap.Ns b m->(AR s₁.heap H).Ns b m:=λ{b m} ⟨o,es,ep,e,d,r⟩=>⟨o,es,ep,FZ e (RI e d),d,r⟩
  have hKb:K.In (AR s₁.heap H):=λb o e=>FZ (KX b o e) (by
   cases q:H b with
   |none=>rfl
   |some u =>
    have e':b=a:=hA b (by rw[q];simp)
    subst e'
    rw[hK (by rw[q];simp)]at e;cases e)
  have hM:Mod K mg (AR s₁.heap H):=⟨hKb,Vh hns,⟨mb,Vh hb,hbb⟩,let ⟨mc,h1,h2⟩:=hlim;⟨mc,Vh h1,h2⟩⟩
  have e0:zf P w K mg (AR s₁.heap H) callerA [] s₁ H:=⟨rfl,hM,λb o e=>LK e,Nat.le_of_eq (Hf _ _),trivial,λb hb=>absurd (show b∈([]:List Addr) from hb) (by simp),hok,.of_eq hg⟩
  refine codeAny_mono ((F _ hKb (Vh hns)).run callerA [] s₁ H ⟨[.ref a],[]⟩ [.ref a] [.ref a] _ _ hr e0 (hbind s₁ (.ref a)) (.cons rfl .nil) (IY H hO hS)) λr s' h=>?_
  cases r with
  |error e=>exact(Wc H e s' h).elim
  |ok fl =>
   cases fl with
   |next=>exact False.elim h
   |brk=>exact False.elim h
   |cont=>exact False.elim h
   |ret u =>
    obtain⟨v,H',os,bare,un,We,r',q⟩:=h
    have q':v=.bl true:=q
    subst q'
    obtain rfl:u=Value.bool true:=r'
    refine⟨O,OldK.of_keep λb o e=>?_,os,bare⟩
    cases q:H b with
    |none=>exact un.keep b o e q (by intro z;exact absurd (show b∈([]:List Addr) from z) (by simp)) (by simp)
    |some u =>
     rcases hO b with z|⟨ob,xs,z⟩
     ·rw[q]at z;cases z
     ·have z2:=un.tT b ob _ z
      obtain⟨e1,_⟩:=hok b _ z
      obtain⟨e2,_⟩:=We b _ z2
      rw[e]at e1;cases e1
      exact e2
 cases hk:K.lookup a with
 |some o =>
  have e:=KX a o hk
  rw[ha]at e
  cases e
  refine core (λ_=>none) (λ_=>.inl rfl) (.inr ⟨_,vs.toArray,_,hk,rfl,rfl,rfl,by rw[abg,Wd];exact hl,by simpa using rv⟩) (λb u z=>by have z':(none:Option HO)=some u:=z;cases z') (λb z=>absurd rfl z) λz=>absurd rfl z
 |none =>
  refine core (λb=>if b=a then some (.Ef {cls:=.type "list",data:=.seq vs.toArray} (.lst (ns.map V.int))) else none) (λb=>?_) (.inl (.inr ⟨{cls:=.type "list",data:=.seq vs.toArray},abj rfl⟩)) (λb u z=>?_) (λb z=>?_) λ_=>hk
  ·by_cases hb:b=a
   ·exact .inr ⟨_,_,abj hb⟩
   ·exact .inl (abb hb)
  ·by_cases hb:b=a
   ·have z':=(abj hb).symm.trans z
    cases z'
    subst hb
    exact⟨ha,by rw[aa9];exact hl,vs,_,rv,ha⟩
   ·have z':=(abb hb).symm.trans z
    cases z'
  ·by_cases hb:b=a
   ·exact hb
   ·exact absurd (abb hb) z
theorem Ma{l:W.OpenLaw}{n k:Nat}{q:Program}{loose:List Str}{XP:(Str->Option Value)->Heap->Prop}{YP:World->Heap->Prop}{d:DefRec}{K:Params->W.Frag}{CX:World->Hr}{sp:World->Sp}{x:Str}(hn:l.most=some n)(hn2:n<=sizeLine)(hdf:d.params.defaults=[])(hr:dM k callerA)(hY:∀(w:World)(h:Heap),YP w h->(K w.params).In h)(F:∀(w:World)(mg:Str->Option Value)(fa:Addr)(h:Heap),(K w.params).In h->h.Ns mainGlobals mg->mg d.name=some (.ref fa)->∃fd:FuncData,(∀(s:Shared)(u:Value),BindsTo s fd ⟨[u],[]⟩ [(x,u)])/\∀base:Heap,(K w.params).In base->base.Ns mainGlobals mg->bu l.prog w (K w.params) mg base (CX w) k fa fd [x] (sp w))(IY:∀(w:World)(H:Hp)(a:Addr)(ns:List Int),ns.length<=n->OL H->aN (K w.params) H a (ns.map V.int)->sp w [.ref a] H (λv _=>v=.bl true) λ_ _ _=>False)(Wc:∀(w:World)(H:Hp)(s:Shared)(e:Value)(s':Shared),CX w [] H s (λ_ _ _=>False) e s'->False):W.WalkO q loose XP YP l.row.toRowW d [] (λf vs=>PySem.call f vs):=by
 refine Att.CP hn hdf λw s₀ s₁ mg mb fa o pm cd doc a vs ns G Y ho hd hcd hmg hobj hints hlen hg=>?_
 have KX:=hY w _ Y
 obtain⟨fd,hb,hF⟩:=F w mg fa _ KX G.T.g hmg
 exact JE KX G.T.g G.T.b G.T.builtins G.T.nolimit hg hobj hints (abv hlen hn2) hr hF hb (λH hO hS=>IY w H a ns hlen hO hS) λH e s'=>Wc w H s₁ e s'
def inClass(s:Stmt)(j:Nat):Stmt:=match s with
 | .ClassDef _ _ _ body _ _ _ _ _ _ _=>body.getD j (.Pass ⟨0,0,0,0⟩)
 |_=>.Pass ⟨0,0,0,0⟩
def dQ(s:Stmt):Arguments:=match s with
 | .FunctionDef _ a _ _ _ _ _ _ _ _=>a
 |_=>{posonlyargs:=[],args:=[],vararg:=none,kwonlyargs:=[],kw_defaults:=[],kwarg:=none,defaults:=[]}
def cK(s:Stmt):List Stmt:=match s with
 | .FunctionDef _ _ b _ _ _ _ _ _ _=>b
 |_=>[]
def aA(s:Stmt):Scope:=match s with
 | .FunctionDef _ _ _ _ _ _ sc _ _ _=>sc
 |_=>{kind:=.function,names:=[],isGenerator:=false,isCoroutine:=false}
abbrev eH:Hr:=λ_ _ _ _ _ _=>False
abbrev E0:XK:=λ_ _ _=>False
theorem CQ{X:Cx}:Passes eH X E0:=λ_ _ _ _ _ _ _ h=>h.elim
structure fB(K:W.Frag)(x qual:Str)(st:Stmt)(f:Addr)(fd:FuncData):Prop where
 ex:∃(oc:Value)(od:Option Addr)(kV doc pm:Value)(an:Option Addr)(cdv ct:Value)(osl:Array (Option Value)),fd=W.fnOf x qual (dQ st) (cK st) (aA st) .none kV doc pm an cdv ct/\K.lookup f=some ⟨oc,od,.func fd,osl⟩/\W.codeIn K cdv qual=true
 kp:W.keepIn K (.ref f)=true
section
variable{P:Program}{w:World}{K:W.Frag}{mg:Str->Option Value}{base:Heap}
theorem fB.ok{x qual:Str}{st:Stmt}{f:Addr}{fd:FuncData}{N ps:List Str}{k:Nat}{sp:Sp}(F:fB K x qual st f fd)(S:aP N ps (aA st))(len:∀vs H Q E,sp vs H Q E->vs.length=ps.length)(hbody:∀(cdv:Value)(A:Around)(outer:List Env)(s:Shared)(H:Hp)(vs:List V)(Q:VK)(E:XK),dM k (A.deeper (envOfC qual (aA st) s.heap.objs.size f cdv))->sp vs H Q E->∃t,FJ (AW eH P w K mg base N qual (aA st) f cdv A outer s H E).QK (cK st) t/\t {nx:=λ_ H'=>Q .non H',rt:=Q} (start N vs) H):bu P w K mg base eH (k+1) f fd ps sp:=by
 obtain⟨oc,od,kV,doc,pm,an,cdv,ct,osl,rfl,lk,hcd⟩:=F.ex
 refine JA lk hcd S len λA outer s H vs Q E hr IY=>?_
 obtain⟨t,h,q⟩:=hbody cdv A outer s H vs Q E hr IY
 exact⟨t,h.QK,q⟩
theorem fB.binds{x qual:Str}{st:Stmt}{f:Addr}{fd:FuncData}{ps:List Str}(F:fB K x qual st f fd)(h:∀(kV doc pm:Value)(an:Option Addr)(cdv ct:Value)(us:List Value),us.length=ps.length->bindArgs (W.fnOf x qual (dQ st) (cK st) (aA st) .none kV doc pm an cdv ct) ⟨us,[]⟩=pure (ps.zip us)):Binds K fd ps []:=by
 obtain⟨oc,od,kV,doc,pm,an,cdv,ct,osl,rfl,lk,hcd⟩:=F.ex
 exact .all (h kV doc pm an cdv ct)
theorem JF{x qual:Str}{st:Stmt}{f:Addr}{oc:Value}{od an:Option Addr}{osl:Array (Option Value)}{kV doc pm cdv ct:Value}(l:K.lookup f=some ⟨oc,od,.func (W.fnOf x qual (dQ st) (cK st) (aA st) .none kV doc pm an cdv ct),osl⟩)(c:W.codeIn K cdv qual=true)(k:W.keepIn K (.ref f)=true):fB K x qual st f (W.fnOf x qual (dQ st) (cK st) (aA st) .none kV doc pm an cdv ct):=⟨⟨oc,od,kV,doc,pm,an,cdv,ct,osl,rfl,l,c⟩,k⟩
end
theorem bx{A:Around}{k:Nat}(hr:dM k A):A.units+1<cLine:=abr (Nat.add_le_add_left (by decide:1<=64) _) hr.units
section
variable{X:Cx}
theorem pv(i:Nat){x:Str}{pos:Pos}(hN:X.N[i]?=some x:=by rfl)(hv:VR X.env.scope x:=by first|exact Or.inl rfl|exact Or.inr (Or.inl rfl)|exact Or.inr (Or.inr rfl))(hd:(x==("__debug__":Str))=false:=by decide)(hcd:(x==("__classdict__":Str))=false:=by decide):PE X (.Name x pos) (LN i):=Oq hN hv hd hcd
end
theorem bE{A B:Prop}(h:B):if false=true then A else B:=by
 rw[abb abB]
 exact h
theorem fD{A B:Prop}(h:A):if true=true then A else B:=by
 rw[abj rfl]
 exact h
theorem bf{c A B:Prop}[Decidable c](h1:c->A)(h2:¬c->B):if c then A else B:=by
 by_cases h:c
 ·rw[abj h]
  exact h1 h
 ·rw[abb h]
  exact h2 h
theorem RN{c A B:Prop}[Decidable c](hc:c)(h:B):if (!decide c)=true then A else B:=by
 rw[abo hc]
 exact bE h
def aG(H H':Hp):Prop:=∀b o,H b=some o->H' b=some o
theorem aG.refl(H:Hp):aG H H:=λ_ _ h=>h
theorem aG.trans{H H1 H2:Hp}(a:aG H H1)(b:aG H1 H2):aG H H2:=λc o h=>b c o (a c o h)
theorem aG.free{H H':Hp}(e:aG H H'){l:Addr}(h:H' l=Option.none):H l=Option.none:=by
 cases q:H l with
 |none=>rfl
 |some o =>
  rw[e l o q]at h
  cases h
theorem aG.seq{K:W.Frag}{H H':Hp}{a:Addr}{xs:List V}(e:aG H H')(h:aN K H a xs):aN K H' a xs:=by
 rcases h with (h|⟨o,h⟩)|h
 ·exact .inl (.inl (e _ _ h))
 ·exact .inl (.inr ⟨o,e _ _ h⟩)
 ·exact .inr h
end L2
set_option maxHeartbeats 4000000
namespace L2
open PySem PySem.Spec PyProof.Rows
def eg(env:Env):List (Str×NameKind)->List (Str×Addr)->List (Str×Addr)
 |[],cs=>cs
 | (n,k)::r,cs=>eg env r (if k==.free then (n,(env.cells.lookup n).getD 0)::cs else cs)
theorem kq{scope:Scope}{env:Env}(h:∀n,(n,NameKind.free)∈scope.names->∃c,env.cells.lookup n=some c):closureFor scope env=pure (eg env scope.names []):=by
 simp only[closureFor]
 have key:∀(l:List (Str×NameKind))(cs:List (Str×Addr)),(∀n,(n,NameKind.free)∈l->∃c,env.cells.lookup n=some c)->(forIn l cs (λx r=>if (x.2==NameKind.free)=true then (cellOf env x.1 >>= λa=>pure (ForInStep.yield ((x.1,a)::r))) else pure (ForInStep.yield r)):Sem (List (Str×Addr)))=pure (eg env l cs):=by
  intro l
  induction l with
  |nil=>intro cs _;rfl
  |cons x l ih =>
   intro cs hl
   obtain⟨n,k⟩:=x
   have hl':∀n,(n,NameKind.free)∈l->∃c,env.cells.lookup n=some c:=λn hn=>hl n (abp _ hn)
   rw[List.forIn_cons]
   by_cases hk:k=.free
   ·subst hk
    obtain⟨c,hc⟩:=hl n abl
    have e1:cellOf env n=pure c:=by unfold cellOf;rw[hc]
    simp only[beq_self_eq_true,acz,e1,pure_bind]
    rw[ih _ hl']
    simp only[eg,beq_self_eq_true,acz,hc,Option.getD_some]
   ·have hb:(k==NameKind.free)=false:=by simpa using hk
    simp only[hb,ab4,acH,pure_bind]
    rw[ih _ hl']
    simp only[eg,hb,ab4,acH]
 exact(congrArg (λz=>z >>= λr=>pure r) (key scope.names [] h)).trans rfl
theorem jg{env:Env}:∀(l:List (Str×NameKind))(cs:List (Str×Addr)),(∀n,(n,NameKind.free)∈l->∃c,env.cells.lookup n=some c)->(∀x c,cs.lookup x=some c->env.cells.lookup x=some c)->∀x c,(eg env l cs).lookup x=some c->env.cells.lookup x=some c
 |[],cs,_,h,x,c,e=>h x c e
 | (n,k)::r,cs,hl,h,x,c,e=>by
  refine jg r _ (λn hn=>hl n (abp _ hn)) ?_ x c e
  intro y d hy
  by_cases hk:(k==NameKind.free)=true
  ·rw[abj hk]at hy
   have hk':k=.free:=by simpa using hk
   subst hk'
   obtain⟨c',hc'⟩:=hl n abl
   rw[hc',Option.getD_some,acd]at hy
   cases Wf:y==n with
   |true =>
    rw[Wf]at hy
    have:y=n:=by simpa using Wf
    subst this
    rw[hc'];exact hy
   |false=>rw[Wf]at hy;exact h y d hy
  ·rw[abb hk]at hy;exact h y d hy
theorem iH{env:Env}:∀(l:List (Str×NameKind))(cs:List (Str×Addr))(x:Str),((x,NameKind.free)∈l\/∃c,cs.lookup x=some c)->∃c,(eg env l cs).lookup x=some c
 |[],cs,x,h=>by
  rcases h with h|h
  ·cases h
  ·exact h
 | (n,k)::r,cs,x,h=>by
  refine iH r _ x ?_
  rcases h with h|⟨c,h⟩
  ·rcases abt.mp h with e|h
   ·cases e
    refine .inr ⟨(env.cells.lookup n).getD 0,?_⟩
    simp[acd]
   ·exact .inl h
  ·right
   by_cases hk:(k==NameKind.free)=true
   ·rw[abj hk,acd]
    cases x==n with
    |true=>exact⟨_,rfl⟩
    |false=>exact⟨c,h⟩
   ·rw[abb hk];exact⟨c,h⟩
theorem cT{env:Env}(x:Str):∀(names:List (Str×NameKind)),(names.map λ(n,k)=>if (k==NameKind.free&&env.scope.kind==.function&&env.kindOf n==some .cell) then (n,NameKind.cell) else (n,k)).lookup x =
   (names.lookup x).map λk=>if (k==NameKind.free&&env.scope.kind==.function&&env.kindOf x==some .cell) then NameKind.cell else k
 |[]=>rfl
 | (n,k)::r=>by
  have ih:=cT (env:=env) x r
  show List.lookup x ((if (k==NameKind.free&&env.scope.kind==.function&&env.kindOf n==some .cell)=true then (n,NameKind.cell) else (n,k))::_)=_
  cases hx:x==n with
  |true =>
   have e:x=n:=by simpa using hx
   subst e
   by_cases hc:(k==NameKind.free&&env.scope.kind==.function&&env.kindOf x==some .cell)=true
   ·rw[abj hc];simp only[acd,beq_self_eq_true,ab7,abj hc]
   ·rw[abb hc];simp only[acd,beq_self_eq_true,ab7,abb hc]
  |false =>
   by_cases hc:(k==NameKind.free&&env.scope.kind==.function&&env.kindOf n==some .cell)=true
   ·rw[abj hc];simp only[acd,hx];exact ih
   ·rw[abb hc];simp only[acd,hx];exact ih
structure aX(XN:List Str)(Hw:Scope)(N:List Str)(nv:Nat)(js:List Nat)(scope:Scope):Prop where
 kind:scope.kind=.function
 cell:∀y∈scope.names,y.2≠.cell
 loc:∀y∈scope.names,y.2=.local->scope.names.lookup y.1=some .local
 free:∀y∈scope.names,y.2=.free->(Hw.names.lookup y.1=some .cell\/Hw.names.lookup y.1=some .free)
 nd:N.Nodup
 len:N.length=nv+js.length
 pl:js.map (λj=>XN[j]?)=(N.drop nv).map some
 fr:∀x∈N.drop nv,scope.names.lookup x=some .free
abbrev jh(X:Cx)(N:List Str)(scope:Scope)(C:Addr)(s:Shared)(H:Hp)(fp:List Addr):Cx where
 prog:=X.prog
 w:=X.w
 K:=X.K
 mg:=X.mg
 base:=X.base
 A:=X.A
 N:=N
 s₀:=s
 H₀:=H
 env:=compEnvC scope (eg X.env scope.names []) C X.env
 outer:=X.stack
 stack:=X.stack
 ex:=fp
 fn:=λ_=>false
 calm:=X.calm
 pn:=[]
 xe:=λ_ _=>False
def ji(nv:Nat)(js:List Nat)(σ:St):St:=List.replicate nv none++js.map λj=>(σ[j]?).getD none
section
variable{X:Cx}{pins:List (Addr×Obj)}{σ:St}{H:Hp}{s:Shared}
theorem Er{N:List Str}{nv:Nat}{js:List Nat}{scope:Scope}{fp:List Addr}{h1:Heap}{tk:Nat}(I:Inv X pins σ H s)(S:aX X.N X.env.scope N nv js scope)(hf:∀b∈fp,kU X pins H b)(hfl:∀b∈fp,b<s.heap.objs.size)(keep:∀b o,s.heap.get? b=some o->h1.get? b=some o)(ns:h1.Ns s.heap.objs.size λ_=>none):Inv (jh X N scope s.heap.objs.size s H fp) [] (ji nv js σ) H {s with heap:=h1,toks:=tk}:=by
 have hfr:∀n,(n,NameKind.free)∈scope.names->∃c,X.env.cells.lookup n=some c:=λn hn=>I.ok.has n (S.free _ hn rfl)
 have sub:∀x c,(eg X.env scope.names []).lookup x=some c->X.env.cells.lookup x=some c:=jg scope.names [] hfr (λx c z=>by cases z)
 have OM:∀x,scope.names.lookup x≠some .cell:=λx z=>S.cell _ (abQ z) rfl
 have ON:∀x,(relabel scope X.env).names.lookup x=some .cell\/(relabel scope X.env).names.lookup x=some .free->scope.names.lookup x=some .free:=by
  intro x hx
  have e:=cT (env:=X.env) x scope.names
  have hx':(relabel scope X.env).names.lookup x=_:=e
  rw[hx']at hx
  cases q:scope.names.lookup x with
  |none=>rw[q]at hx;rcases hx with hx|hx<;>cases hx
  |some k =>
   rw[q,ab7]at hx
   cases k<;>first|rfl | (exact absurd q (OM x)) | (exfalso;rcases hx with hx|hx<;>simp at hx)
 refine⟨⟨I.ok.mod,S.kind,I.ok.glob,I.ok.blt,abh _,λx y c h1 h2=>I.ok.inj x y c (sub _ _ h1) (sub _ _ h2),λx hx=>?_,λx c z=>(by cases z),I.ok.hd,I.ok.frames,.inl rfl,λb hb=>?_,λb o e=>?_,?_,λb o e hb=>?_,λb hb z=>?_,I.stack,I.xu⟩,O,I.bare,Un.kept keep,⟨_,ns,λi x v e1 e2 e3=>?_⟩,λx c e=>?_,I.hok.fresh (abh _),λx c e=>I.mV x c (sub _ _ e),λp hp=>absurd (show p∈([]:List (Addr×Obj)) from hp) (by simp),I.hok.kept keep,?_⟩
 ·exact iH _ _ _ (.inl (abQ (ON x hx)))
 ·obtain⟨f0,f1,f2,f3,f4,f5⟩:=hf b hb
  exact⟨abP (hfl b hb),λx c e=>f4 x c (sub x c e)⟩
 ·exact I.bs b o e
 ·exact abv I.ok.IW I.sz
 ·obtain⟨f0,f1,f2,f3,f4,f5⟩:=hf b hb
  rcases f3 with z|z
  ·exact I.ok.Hg b o e z
  ·exact absurd (abD (abu e) (abv I.ok.IW z)) (acN _)
 ·obtain⟨f0,f1,f2,f3,f4,f5⟩:=hf b hb
  rcases abt.mp (I.qo b z) with q|q
  ·exact f1 q
  ·exact f2 q
 ·
  have hi:¬i<nv:=λhlt=>by
   unfold ji at e2
   rw[aco (by simpa using hlt),List.getElem?_replicate,abj hlt]at e2
   cases e2
  obtain⟨k,rfl⟩:∃k,i=nv+k:=⟨i-nv,by omega⟩
  unfold ji at e2
  rw[acG (by simp),ack,Nat.add_sub_cancel_left,abM]at e2
  cases hj:js[k]? with
  |none=>rw[hj]at e2;cases e2
  |some j =>
   rw[hj,ab7]at e2
   have Mb:(σ[j]?).getD none=some v:=abx e2
   have hσ:σ[j]?=some (some v):=by
    cases q:σ[j]? with
    |none=>rw[q]at Mb;cases Mb
    |some z=>rw[q]at Mb;exact congrArg some Mb
   have hd:(N.drop nv)[k]?=some x:=by rw[List.getElem?_drop];exact e1
   have hX:X.N[j]?=some x:=by
    have q:=congrArg (λl=>l[k]?) S.pl
    simp only[abM,hj,hd,ab7]at q
    exact abx q
   have hfx:=S.fr x (abi hd)
   have kx:=S.free _ (abQ hfx) rfl
   obtain⟨m,_,hl⟩:=I.loc
   obtain⟨u,r,l⟩:=hl j x v hX hσ (.inr kx)
   refine⟨u,r,?_⟩
   rcases l with ⟨k1,_⟩|⟨_,c,hc,hcell⟩
   ·exfalso
    have Wg:X.env.scope.names.lookup x=some .local:=k1
    rcases kx with z|z<;>(rw[Wg]at z;cases z)
   ·obtain⟨c',hc'⟩:=iH (env:=X.env) scope.names [] x (.inl (abQ hfx))
    have e:=sub _ _ hc'
    rw[hc]at e;cases e
    refine .inr ⟨?_,c,hc',hcell.keeps keep⟩
    have e:=cT (env:=X.env) x scope.names
    have e':(relabel scope X.env).names.lookup x=_:=e
    rw[hfx,ab7]at e'
    show(relabel scope X.env).names.lookup x=some .cell\/(relabel scope X.env).names.lookup x=some .free
    rw[e']
    split
    ·exact .inl rfl
    ·exact .inr rfl
 ·obtain⟨v,q⟩:=I.cell x c (sub _ _ e)
  exact⟨v,q.keeps keep⟩
 ·unfold ji
  show _=N.length
  rw[abq,ack,aa9,S.len]
end
def Bd(X:Cx)(ifs:List Expr)(t:TT):Prop :=
 ∀(pins:List (Addr×Obj))(s:Shared)(σ:St)(H:Hp)(Q:Bool->Hp->Prop),Inv X pins σ H s->t σ H Q->wpAny 'f' X.A (forIn ifs true λc r=>if r=true then do let ok ←isTrue c X.env (eval c X.env);pure (ForInStep.yield ok) else pure (ForInStep.yield r)) (TP X pins σ Q) X.xe s
def JG:TT:=λ_ H Q=>Q true H
theorem dh{X:Cx}:Bd X [] JG:=λ_ _ _ H _ I h=>wpAny_tests_nil ⟨H,I,h⟩
theorem qT{X:Cx}{c:Expr}{t:TT}(h:PT X c t):Bd X [c] t:=λpins s σ H Q I q=>wpAny_tests_one (h pins s σ H Q I q)
def vv(J:It)(g:TG)(tt:TT)(te:TE)(Q:VK)(D:Addr)(τ:St)(H:Hp):Prop :=
 ∃W:Nat->Nat->List V->St->Hp->Prop,(∃m,W 0 m [] τ (upd H D (.lst [])))/\∀i m ys τ H,W i m ys τ H->H D=some (.lst ys)/\((J.stop i H/\Q (.ref D) H)\/(J.go i H/\∃N:List V->St->Hp->Prop,(∀zs σ' H',N zs σ' H'->∃m',m'<m/\W (i+1) m' zs σ' H')/\∀x H',J.LA i H x H'->g x τ H' λτ2 H2=>tt τ2 H2 λb H3 =>
   if b=true then te τ2 H3 λy H4=>H4 D=some (.lst ys)/\ys.length<sizeLine/\N (ys++[y]) τ2 (upd H4 D (.lst (ys++[y])))
   else N ys τ2 H3))
def JH(wi:TI)(g:TG)(tt:TT)(te:TE)(nv:Nat)(js:List Nat):TE:=λσ H Q=>wi σ H λJ H1=>∀D,H1 D=none->vv J g tt te Q D (ji nv js σ) H1
theorem xP{prog:Program}{w:World}{A:Around}{R:Result->Shared->Prop}{s:Shared}{elt target iter:Expr}{ifs:List Expr}{scope:Scope}{pos:Pos}{it acc:Value}{env:Env}(I:Nat->Shared->Prop)(turn:∀n s,I n s->wpAny (model prog w) A (pyNext it) (λr s₁=>match r with
   |none=>R (.ok .next) s₁
   |some v=>wpAny (model prog w) A (letOwnedTupleGo target it v) (λ_ s₁'=>wpAny (model prog w) A (assign target env v) (λ_ s₂ =>
     wpAny (model prog w) A (forIn ifs true λc r=>if r=true then do let ok ←isTrue c env (eval c env);pure (ForInStep.yield ok) else pure (ForInStep.yield r)) (λok s₃ =>
      if ok=true then wpAny (model prog w) A (eval elt env) (λx s₄ =>
       wpAny (model prog w) A (call (.builtin "list.append") [acc,x]) (λ_ s₅=>∃m,m<n/\I m s₅) (λ_ _=>False) s₄) (λ_ _=>False) s₃
      else ∃m,m<n/\I m s₃) (λ_ _=>False) s₂) (λ_ _=>False) s₁') (λ_ _=>False) s₁) (λ_ _=>False) s)(n:Nat)(h:I n s):codeAny (model prog w) A (.compLoop (.ListComp elt [⟨target,iter,ifs,0⟩] scope pos) 0 it acc env) R s:=by
 refine codeAny_loop rfl I (λn s hI=>?_) n h
 show wpAny _ A ((compTurn (.ListComp elt [⟨target,iter,ifs,0⟩] scope pos) 0 it acc env).onRaise (λx=>do noteFrame x env;theTreesLotGoes x)) _ _ s
 refine wpAny_noted (acp (E:=λ_ _=>False) ?_ (λ_ _ q=>q) λ_ _ q=>q.elim)
 rw[compTurn_list]
 refine abe (wpAny_standAt (abe (acp (turn n s hI) (λr s₁ h₁=>?_) λ_ _ h'=>h')))
 cases r with
 |none=>exact abz h₁
 |some v =>
  refine abe (acp h₁ (λ_ s₁' h₁'=>?_) λ_ _ h'=>h')
  refine abe (acp h₁' (λ_ s₂ h₂=>abe (acp h₂ (λok s₃ h₃=>?_) λ_ _ h'=>h')) λ_ _ h'=>h')
  cases ok with
  |false=>exact abz ⟨rfl,h₃⟩
  |true =>
   exact abe (abe (acp h₃ (λx s₄ h₄=>abe (acp h₄ (λ_ s₅ h₅=>abz (abz ⟨rfl,h₅⟩)) λ_ _ h'=>h')) λ_ _ h'=>h'))
section
variable{X:Cx}{elt tg iter:Expr}{ifs:List Expr}{scope:Scope}{pos:Pos}{N:List Str}{nv:Nat}{js:List Nat}{wi:TI}{g:TG}{tt:TT}{te:TE}
theorem xQ{pins:List (Addr×Obj)}{σ:St}{H:Hp}{s:Shared}{Q:VK}{it:Addr}{fp:List Addr}{tn:Nat->Heap->Prop}{J:It}{E:Value->Shared->Prop}{RR:Value->Addr->Result->Shared->Prop}(hc:X.calm=true)(S:aX X.N X.env.scope N nv js scope)(hg:∀C s H fp,PG (jh X N scope C s H fp) tg g)(ht:∀C s H fp,Bd (jh X N scope C s H fp) ifs tt)(he:∀C s H fp,PE (jh X N scope C s H fp) elt te)(I:Inv X pins σ H s)(T:Turn X.prog X.w X.K tg J fp it tn)(st:tn 0 s.heap)(hf:∀b∈fp,kU X pins H b)(hR:∀D,H D=none->vv J g tt te Q D (ji nv js σ) H)(hRR:∀D C H' s' m,Inv X pins σ H' s'->kU X pins H' C->s'.heap.Ns C m->Q (.ref D) H'->RR (.ref D) C (.ok .next) s'):wpAny 'f' X.A (newList []) (λacc s₃=>wpAny 'f' X.A (newFunctionEnv scope X.env.globals (eg X.env scope.names []) [] X.env.qual none .none (some X.env)) (λcenv s₄ =>
   codeAny 'f' X.A (.compStart (.ListComp elt [⟨tg,iter,ifs,0⟩] scope pos) 0 (.ref it) acc {cenv with scope:=relabel scope X.env}) (RR acc cenv.locals) s₄) E s₃) E s:=by
 refine wpAny_newObj_type (wpAny_newFunctionEnv S.cell (by intro y hy;simp at hy) (λh₁ xR JI=>?_) S.kind)
 have I3:Inv X pins σ (upd H s.heap.objs.size (.lst [])) {s with heap:=s.heap.push {cls:=.type "list",data:=.seq ([]:List Value).toArray}}:=I.OI (t':=s.toks) (its:=[]) .nil (abW _)
 have hD:=I.fresh
 obtain⟨W,⟨m0,w0⟩,turn⟩:=hR s.heap.objs.size hD
 have ho:=T.obj 0 s.heap st
 have JJ:∀b∈fp,b<s.heap.objs.size:=λb hb=>let ⟨o,e,_⟩:=ho b hb;abu e
 have Es:∀b∈fp,kU X pins (upd H s.heap.objs.size (.lst [])) b:=λb hb=>⟨by rw[aH (abP (JJ b hb))];exact(hf b hb).1,(hf b hb).2⟩
 generalize RO:({s with heap:=s.heap.push {cls:=.type "list",data:=.seq ([]:List Value).toArray}}:Shared)=s3 at I3 xR JI
 have e3:s3.heap=s.heap.push {cls:=.type "list",data:=.seq ([]:List Value).toArray}:=by rw[←RO]
 have hfl:∀b∈fp,b<s3.heap.objs.size:=λb hb=>by rw[e3,ab5];exact Nat.lt_succ_of_lt (JJ b hb)
 have keep:∀b o,s3.heap.get? b=some o->h₁.get? b=some o:=λb o e=>JI.extBut b o (abP (abu e)) (abm _ e)
 have J0:=Er (tk:=s3.toks+([]:List (Str×Value)).length) I3 S Es hfl keep xR
 have st1:tn 0 h₁:=T.keep 0 s.heap h₁ st λb hb o e=>keep b o (by rw[e3];exact abm _ e)
 generalize hH3:upd H s.heap.objs.size (.lst [])=H3 at *
 generalize hY:jh X N scope s3.heap.objs.size s3 H3 fp=Y at *
 have sub:∀x c,(eg X.env scope.names []).lookup x=some c->X.env.cells.lookup x=some c :=
  jg scope.names [] (λn hn=>I.ok.has n (S.free _ hn rfl)) (λx c z=>by cases z)
 have xN:∀{H':Hp},(∀b∈fp,H' b=none)->∀b∈fp,kU Y [] H' b:=λ{H'} hn b hb=>by
  subst hY
  obtain⟨f0,f1,f2,f3,f4,f5⟩:=Es b hb
  refine⟨hn b hb,abP (hfl b hb),λz=>?_,.inl hb,λx c e=>f4 x c (sub x c e),λp hp=>absurd (show p∈([]:List (Addr×Obj)) from hp) (by simp)⟩
  rcases abt.mp (I3.qo b z) with q|q
  ·exact f1 q
  ·exact f2 q
 have eA:Y.A=X.A:=by subst hY;rfl
 have eP:Y.prog=X.prog:=by subst hY;rfl
 have eW:Y.w=X.w:=by subst hY;rfl
 have eK:Y.K=X.K:=by subst hY;rfl
 have eC:Y.calm=true:=by subst hY;exact hc
 have eE:Y.env=compEnvC scope (eg X.env scope.names []) s3.heap.objs.size X.env:=by subst hY;rfl
 have Mc:Y.xe=λ_ _=>False:=by subst hY;rfl
 have Wh:PG Y tg g:=by subst hY;exact hg _ _ _ _
 have Wi:Bd Y ifs tt:=by subst hY;exact ht _ _ _ _
 have Wj:PE Y elt te:=by subst hY;exact he _ _ _ _
 have loop:codeAny 'f' X.A (.compLoop (.ListComp elt [⟨tg,iter,ifs,0⟩] scope pos) 0 (.ref it) (.ref s.heap.objs.size) (compEnvC scope (eg X.env scope.names []) s3.heap.objs.size X.env))
   (RR (.ref s.heap.objs.size) s3.heap.objs.size) {s3 with heap:=h₁,toks:=s3.toks+([]:List (Str×Value)).length}:=by
  refine xP (λn s'=>∃i ys τ H',Inv Y [] τ H' s'/\tn i s'.heap/\(∀b∈fp,H' b=none)/\W i n ys τ H') ?_ m0 ⟨0,[],_,H3,J0,st1,λb hb=>(Es b hb).1,w0⟩
  rintro n s4 ⟨i,ys,τ,H4,I4,RP,RQ,w4⟩
  obtain⟨hDl,tr⟩:=turn i n ys τ H4 w4
  rcases tr with ⟨stop,qn⟩|⟨go,Nn,RS,step⟩
  ·have d:=T.done Y eP eW eK eC i [] s4 τ H4 (λ_ _=>False) I4 (xN RQ) RP stop
   rw[eA]at d
   refine dJ d λr s5 ⟨hr,I5⟩=>?_
   subst hr
   have u:Inv X pins σ H4 s5:=by
    subst hY
    exact I3.NJ (ch:=fp) I5.os I5.base I5.hok I5.bare λb hb=>⟨(Es b hb).2.2.2.1,(Es b hb).2.1,(Es b hb).2.2.2.2.1,(Es b hb).2.2.2.2.2⟩
   have hC:H4 s3.heap.objs.size=none:=by have z:=I5.free;rw[eE]at z;exact z
   obtain⟨m,hn,_⟩:=I5.loc
   rw[eE]at hn
   exact hRR _ _ H4 s5 m u (I3.wm (abh _) hC) hn qn
  ·have d:=T.item Y eP eW eK eC i [] s4 τ H4 (λ_ _=>False) I4 (xN RQ) RP go
   rw[eA]at d
   refine dJ d λr s5 ⟨u,hr,h5⟩=>?_
   subst hr
   refine dJ h5 λ_ s6 ⟨x,H6,I6,r6,y6,OO,Wk⟩=>?_
   have Wl:=I6.pinned (xN Wk) (T.obj _ _ OO)
   have q6:=Wh _ s6 τ H6 x u _ Wl r6 (step x H6 y6)
   rw[eP,eW,eA,eE,Mc]at q6
   refine dJ q6 λ_ s7 ⟨σ7,H7,I7,q7⟩=>?_
   have q8:=Wi _ s7 σ7 H7 _ I7 q7
   rw[eP,eW,eA,eE,Mc]at q8
   refine dJ q8 λok s8 ⟨H8,I8,q8⟩=>?_
   have again:∀{σ9:St}{H9:Hp}{s9:Shared}{zs:List V},Inv Y ([]++tW fp s6.heap) σ9 H9 s9->(∃m',m'<n/\W (i+1) m' zs σ9 H9)->∃m,m<n/\∃i ys τ H',Inv Y [] τ H' s9/\tn i s9.heap/\(∀b∈fp,H' b=none)/\W i m ys τ H':=λ{σ9 H9 s9 zs} I9 n9=>by
    obtain⟨m',hm,w9⟩:=n9
    refine⟨m',hm,i+1,zs,σ9,H9,I9.nu,T.keep _ _ _ OO λb hb o e=>(I9.pin (b,o) (abO _ (abO _ (ic hb e)))).1,λb hb=>?_,w9⟩
    obtain⟨o,e,d⟩:=T.obj _ _ OO b hb
    exact(I9.pin (b,o) (abO _ (abO _ (ic hb e)))).2.1
   cases ok with
   |false =>
    rw[abb abB]
    rw[abb abB]at q8
    exact again I8 (RS _ _ _ q8)
   |true =>
    rw[abj rfl]
    rw[abj rfl]at q8
    have q9:=Wj _ s8 σ7 H8 _ I8 q8
    rw[eP,eW,eA,eE,Mc]at q9
    refine dJ q9 λy s9 ⟨yv,H9,I9,r9,RU,Wm,q9⟩=>?_
    have ap:=bI (X:=Y) _ s9 σ7 H9 (.ref s.heap.objs.size) [yv] (.ref s.heap.objs.size) [y] (λ_ OP=>Nn (ys++[yv]) σ7 OP) I9 rfl (.cons r9 .nil) ⟨_,ys,yv,rfl,rfl,RU,Wm,q9⟩
    rw[eP,eW,eA,Mc]at ap
    exact dJ ap λ_ JK ⟨_,OP,Wn,_,Wo⟩=>again Wn (RS _ _ _ Wo)
 subst RO
 exact codeAny_compStart_list loop (T.self _ 0 _ _ _ st1 loop)
theorem di(hc:X.calm=true)(S:aX X.N X.env.scope N nv js scope)(hi:PI X tg iter wi)(hg:∀C s H fp,PG (jh X N scope C s H fp) tg g)(ht:∀C s H fp,Bd (jh X N scope C s H fp) ifs tt)(he:∀C s H fp,PE (jh X N scope C s H fp) elt te)(hs:∀x,foldedSetIterable iter X.env x=pure x:=by intro _;rfl):PE X (.ListComp elt [⟨tg,iter,ifs,0⟩] scope pos) (JH wi g tt te nv js):=by
 intro pins s σ H Q I h
 rw[eval_ListComp]
 refine wpAny_comprehension_free (use:=none) rfl hs (kq λn hn=>I.ok.has n (S.free _ hn rfl)) S.kind S.loc (dJ (hi pins s σ H _ I h) λv s1 h1=>dJ h1 λitv s2 h2=>?_)
 obtain⟨it,fp,tn,J,H2,e,I2,T,st2,f2,hR⟩:=h2
 subst e
 refine xQ (RR:=λacc C=>compPost 'f' X.A X.xe none (EP X pins σ Q) acc C) hc S hg ht he I2 T st2 f2 hR ?_
 intro D C H' s' m I' fC hn q
 refine⟨m,hn,λh' sb=>⟨.ref D,H',?_,O,q⟩⟩
 exact I'.turned (t':=s'.toks) (λb o hb e=>(sb.2 b hb).trans e) fC.1 fC.2.1 fC.2.2.2.1 fC.2.2.2.2.1 fC.2.2.2.2.2
theorem xA{i:Nat}{x:Str}{pos' spos:Pos}(hc:X.calm=true)(hN:X.N.Nodup)(hi':X.N[i]?=some x)(hx:X.env.scope.names.lookup x=some .local)(S:aX X.N X.env.scope N nv js scope)(hi:PI X tg iter wi)(hg:∀C s H fp,PG (jh X N scope C s H fp) tg g)(ht:∀C s H fp,Bd (jh X N scope C s H fp) ifs tt)(he:∀C s H fp,PE (jh X N scope C s H fp) elt te)(hsw:swapsWith (.ListComp elt [⟨tg,iter,ifs,0⟩] scope pos) (some (.Name x pos')) spos.line X.env=pure true:=by rfl)(hs:∀x,foldedSetIterable iter X.env x=pure x:=by intro _;rfl):PS X (.Assign [.Name x pos'] (.ListComp elt [⟨tg,iter,ifs,0⟩] scope pos) spos) (Jm (JH wi g tt te nv js) (bQ i)):=by
 intro pins s σ H D I h
 rw[exec_Assign_Name_used _ _ _ _ hsw]
 refine abe (wpAny_standAt (abe ?_))
 show wpAny _ X.A (do let _ ←comprehension (.ListComp elt [⟨tg,iter,ifs,0⟩] scope pos) scope X.env _ (newList []) false (eval iter X.env) (some (assign (.Name x pos') X.env))) _ _ s
 refine abe (acp (wpAny_comprehension_free (use:=some (assign (.Name x pos') X.env)) (Q:=λ_ s'=>SP X pins D .next s') rfl hs (kq λn hn=>I.ok.has n (S.free _ hn rfl)) S.kind S.loc
  (dJ (hi pins s σ H _ I h) λv s1 h1=>dJ h1 λitv s2 h2=>?_)) (λ_ s' hq=>abz (abz hq)) λ_ _ e=>e)
 obtain⟨it,fp,tn,J,H2,e,I2,T,st2,f2,hR⟩:=h2
 subst e
 refine xQ (RR:=λacc C=>compPost 'f' X.A X.xe (some (assign (.Name x pos') X.env)) (λ_ s'=>SP X pins D .next s') acc C) hc S hg ht he I2 T st2 f2 hR ?_
 intro Dl C H' s' m I' fC hn q
 show wpAny _ X.A (assign (.Name x pos') X.env (.ref Dl)) _ _ _
 refine wpAny_assign_Name (tV I' hN hi' (.inl hx) (v:=.ref Dl) rfl (λs2 I3 ch=>?_) (.inr hx))
 obtain⟨a,sb,ha⟩:=ch
 have Wq:C≠a:=by
  rcases ha with rfl|ha
  ·exact fC.2.1
  ·exact(fC.2.2.2.2.1 x a ha).symm
 refine⟨m,hn.sameBut sb Wq,λh' sb'=>⟨_,H',?_,q⟩⟩
 exact I3.turned (t':=s2.toks) (λb o hb e=>(sb'.2 b hb).trans e) fC.1 fC.2.1 fC.2.2.2.1 fC.2.2.2.2.1 fC.2.2.2.2.2
end
theorem Et:typeLookup (.type "list_reverseiterator") "__len__"=pure none:=by rw[typeLookup_type,builtinLookup_eq_fast];kernel_rfl
theorem JL:typeLookup (.type "list_reverseiterator") "__length_hint__"=pure (some (.builtin "list_reverseiterator.__length_hint__")):=by rw[typeLookup_type,builtinLookup_eq_fast];kernel_rfl
section
variable{prog:Program}{w:World}{A:Around}{E:Value->Shared->Prop}{s:Shared}
theorem JM{I l:Addr}{i:Int}{Q:Bool->Shared->Prop}(hit:s.heap.IsRevIter I l i)(h:Q false s):wpAny (model prog w) A (Builtin.List.listLengthHint (.ref I)) Q E s:=by
 unfold Builtin.List.listLengthHint
 refine abe (acF hit.typeIs Et ?_)
 show wpAny _ _ (specialOf (Value.ref I) ("__length_hint__":Str) >>= _) _ _ _
 refine abe (acF hit.typeIs JL ?_)
 generalize hid:("list_reverseiterator.__length_hint__":String)=id0
 wp_delta
 rw[show splitId id0=some ("list_reverseiterator","__length_hint__") from by subst hid;decide +kernel]
 subst hid
 refine abe (wpAny_isInstance (T:="list_reverseiterator") (b:=true) hit.typeIs (by rw[isSubtype_type];kernel_rfl) ?_)
 refine wpAny_ite_split (λhab=>absurd hab 'c') (λ_=>?_)
 refine wpAny_ite_split (λ_=>?_) (λhab=>absurd (by decide +kernel) hab)
 refine wpAny_ite_split (λhab=>absurd hab (by decide +kernel)) (λ_=>?_)
 exact abz h
theorem Eu{R:Result->Shared->Prop}(hh:A.handled=none){I l:Addr}{items:Array Value}(hne:l≠I)(hit:s.heap.IsRevIter I l ((items.size:Int)-1))(hl:s.heap.IsList l items)(S:Addr)(Vi:S≠l)(res:Value)(c₀:Nat)(hS:s.heap.get? S=some {cls:=.type "list",data:=.seq #[] c₀})(hn:items.size<=sizeLine)(hR:∀h' tk acc' c',(∀b o,b≠S->b≠I->s.heap.get? b=some o->h'.get? b=some o)->h'.get? S=some {cls:=.type "list",dict:=none,data:=.seq acc' c',slots:=#[]}->ItemsOf (λi v=>items[items.size-1-i]?=some v) acc' items.size->R (.ok (.ret res)) {s with heap:=h',toks:=tk}):wpAny (model prog w) A.in1 (Builtin.List.listExtendWith (.ref S) (.ref I) res)
   (λfin s'=>match fin with | .done f=>R (.ok f) s' | .again c'=>c'.quiet=true/\codeAny (model prog w) A c' R s') (λe s'=>R (.error e) s') s:=by
 have hSI:S≠I:=λe=>by
  subst e
  obtain⟨o,ho,hc,_⟩:=hit
  rw[hS]at ho;cases ho
  exact absurd (show Value.type "list"=Value.type "list_reverseiterator" from hc) 'c'
 have hSf:S∉[I,l]:=λhm=>by
  rcases abt.mp hm with e|hm
  ·exact hSI e
  ·exact Vi (abf.mp hm)
 unfold Builtin.List.listExtendWith
 refine abe (wpAny_typeOf hit.typeIs ?_)
 have h1:Builtin.List.listSameRef (.ref S) (.ref I)=false:=by simp[Builtin.List.listSameRef,hSI]
 have h2:(Value.type "list_reverseiterator"==Value.type "list")=false:=by decide
 have h3:(Value.type "list_reverseiterator"==Value.type "tuple")=false:=by decide
 simp only[h1,h2,h3,Bool.or_false,ab4,acH]
 refine abe (wpAny_pyIter_revIter hit ?_)
 refine abe (wpAny_holding (JM hit ?_))
 rw[abb 'c']
 refine abz ⟨plainId_quiet F.plain_extend_loop _,codeAny_extend_loopS (Walks.listRev (prog:=prog) (w:=w) (A:=A.in1) hh I l hne items).toS hn _ hSf _ items.size 0 _ _ _ rfl (abW _) ⟨abW _,by simpa using hit,hl⟩ hS (ItemsOf.nil _) λs' acc' c' hm hS' hacc=>?_⟩
 rw[Moved.eq_with hm]
 refine hR s'.heap s'.toks acc' c' (λb ob hb hb2 e=>hm.heap b ob (λhmem=>?_) e) hS' hacc
 rcases abt.mp hmem with e'|hmem
 ·exact hb e'
 ·exact hb2 (abf.mp hmem)
theorem zj{R:Result->Shared->Prop}(hh:A.handled=none){I l:Addr}{items:Array Value}(hne:l≠I)(hit:s.heap.IsRevIter I l ((items.size:Int)-1))(hl:s.heap.IsList l items)(S:Addr)(Vi:S≠l)(hS:s.heap.get? S=some {cls:=.type "list",data:=.seq #[]})(hn:items.size<=sizeLine)(hR:∀h' tk acc' c',(∀b o,b≠S->b≠I->s.heap.get? b=some o->h'.get? b=some o)->h'.get? S=some {cls:=.type "list",dict:=none,data:=.seq acc' c',slots:=#[]}->ItemsOf (λi v=>items[items.size-1-i]?=some v) acc' items.size->R (.ok (.ret .none)) {s with heap:=h',toks:=tk}):wpAny (model prog w) A.in1 (Builtin.«list.__init__» ⟨[.ref S,.ref I],[]⟩)
   (λfin s'=>match fin with | .done f=>R (.ok f) s' | .again c'=>c'.quiet=true/\codeAny (model prog w) A c' R s') (λe s'=>R (.error e) s') s:=by
 have hSI:S≠I:=λe=>by
  subst e
  obtain⟨o,ho,hc,_⟩:=hit
  rw[hS]at ho;cases ho
  exact absurd (show Value.type "list"=Value.type "list_reverseiterator" from hc) 'c'
 show wpAny _ _ (do let old ←Builtin.List.listItems (.ref S);Builtin.List.listUpdate (.ref S) (λ_=>#[]);letGo old.toList.reverse;Builtin.List.listExtendWith (.ref S) (.ref I) .none) _ _ s
 refine abe ?_
 unfold Builtin.List.listItems
 refine abe (acA hS rfl (abz ?_))
 show wpAny _ _ (updateSeq S (λ_=>#[]) >>= λ_=>letGo (#[]:Array Value).toList.reverse >>= λ_=>Builtin.List.listExtendWith (.ref S) (.ref I) .none) _ _ s
 refine abe (wpAny_updateSeq hS rfl ?_)
 have RV:=Heap.get?_update_self (Obj.mapSeq (λ_=>(#[]:Array Value))) hS rfl
 have Vj:∀b o,b≠S->s.heap.get? b=some o->(s.heap.update S (Obj.mapSeq (λ_=>(#[]:Array Value)))).get? b=some o :=
  λb o hb e=>(ab3 _ _ (acu hb)).trans e
 refine abe (wpAny_letGo ?_)
 refine Eu hh hne (hit.at λo e=>Vj _ o (acu hSI) e) (hl.at λo e=>Vj _ o (acu Vi) e) S Vi .none _ RV hn λh' tk acc' c' hk hS' hacc=>?_
 exact hR h' tk acc' c' (λb o hb hb2 e=>hk b o hb hb2 (Vj b o hb e)) hS' hacc
theorem zk{Q:Value->Shared->Prop}(hh:A.handled=none){I l:Addr}{items:Array Value}(hne:l≠I)(hit:s.heap.IsRevIter I l ((items.size:Int)-1))(hl:s.heap.IsList l items)(hn:items.size<=sizeLine)(hQ:∀h' tk acc' c',(∀b o,b≠I->s.heap.get? b=some o->h'.get? b=some o)->h'.get? s.heap.objs.size=some {cls:=.type "list",dict:=none,data:=.seq acc' c',slots:=#[]}->ItemsOf (λi v=>items[items.size-1-i]?=some v) acc' items.size->Q (.ref s.heap.objs.size) {s with heap:=h',toks:=tk}):wpAny (model prog w) A (call (.type "list") [.ref I]) Q E s:=by
 refine callType_codes (Q₁:=λobj s₁=>obj=.ref s.heap.objs.size/\s₁={s with heap:=s.heap.push {cls:=.type "list",data:=.seq #[]}}) F.called_list (F.typeCall_list_1 _) F.entry_list_init
  (code_list_new _ ⟨rfl,rfl⟩) λobj s₁ h₁=>?_
 obtain⟨rfl,rfl⟩:=h₁
 have hS:(s.heap.push {cls:=.type "list",data:=.seq #[]}).get? s.heap.objs.size=some {cls:=.type "list",data:=.seq #[]}:=abC _ rfl
 have hlt:l<s.heap.objs.size:=by obtain⟨o,ho,_⟩:=hl;exact abu ho
 refine⟨⟨_,hS,rfl⟩,F.args_list_init_2 _ _,zj (A:=A.in1) hh hne (hit.at λo e=>abm _ e) (hl.at λo e=>abm _ e) _ (acL hlt) hS hn λh' tk acc' c' hk hS' hacc=>?_⟩
 exact⟨O,hQ h' tk acc' c' (λb o hb e=>hk b o (abP (abu e)) hb (abm _ e)) hS' hacc⟩
end
theorem Hx{items:List Value}{acc:Array Value}(h:ItemsOf (λi v=>items.toArray[items.toArray.size-1-i]?=some v) acc items.toArray.size):acc.toList=items.reverse:=by
 have hz:=h.1
 refine List.ext_getElem? λi=>?_
 by_cases hi:i<items.length
 ·have hi':i<acc.size:=by rw[hz];simpa using hi
  have q:=h.2 i acc[i] (by simp[hi'])
  rw[List.getElem?_reverse hi]
  simp only[abg,List.getElem?_toArray]at q
  rw[q]
  simp[hi']
 ·rw[acm (by rw[abA,hz];simpa using hi),acm (by simpa using hi)]
section
variable{X:Cx}{e:Expr}{te:TE}
def CS(K:W.Frag)(ta:TA):TE:=λσ H Q=>ta σ H λvs H1=>∃p xs,vs=[.ref p]/\aN K H1 p xs/\∀l,H1 l=none->Q (.ref l) (upd H1 l (.lst xs.reverse))
theorem Ew{p1 p2 pos1 pos2:Pos}{ta:TA}(hc:X.calm=true)(hg:Gl X "list")(hm:X.mg "list"=none)(RW:Gl X "reversed")(hm2:X.mg "reversed"=none)(ha:PA X [e] ta)(h1:starEach [.Call (.Name "reversed" p2) [e] [] pos2] X.env=[(false,eval (.Call (.Name "reversed" p2) [e] [] pos2) X.env)]:=by rfl)(h2:starEach [e] X.env=[(false,eval e X.env)]:=by rfl):PE X (.Call (.Name "list" p1) [.Call (.Name "reversed" p2) [e] [] pos2] [] pos1) (CS X.K ta):=by
 intro pins s σ H Q I h
 refine acj (ko I hg hm boot_list ?_ 'c' 'c')
 refine ab1 ?_ h1 rfl
 rw[h1]
 show wpAny _ _ (spliced [(false,eval (.Call (.Name "reversed" p2) [e] [] pos2) X.env)]) _ _ s
 refine Calls.spliced_cons ?_
 refine acj (ko I RW hm2 boot_reversed ?_ 'c' 'c')
 refine ab1 (dJ (ha pos2 pins s σ H _ I h) λus s1 ⟨vs,H1,I1,r1,q1⟩=>?_) h2 rfl
 obtain⟨p,xs,rfl,hq,q⟩:=q1
 obtain⟨u,rfl,ru⟩:=vals1 r1
 cases ru
 obtain⟨its,rv,pl,hz⟩:=I1.list hq
 have hlen:=rv.length
 refine call_reversed_list pl.isList ?_
 refine Calls.spliced_nil ?_
 have hnew:s1.heap.objs.size<=s1.heap.objs.size:=abh _
 have I2:Inv X pins σ H1 {s1 with heap:=s1.heap.push (revObj p ((its.toArray.size:Int)-1))}:=I1.kept (t':=s1.toks) λb o e=>abm _ e
 have hpl:p<s1.heap.objs.size:=by obtain⟨o,ho,_⟩:=pl.isList;exact abu ho
 have f0:=I1.wm hnew (I1.hok.fresh hnew)
 refine zk (I.ok.hd hc) (abP hpl) ⟨_,abC _ rfl,rfl,rfl⟩ (pl.isList.at λo e=>abm _ e) (by rw[abg];omega) λh' tk acc' c' hk hS hacc=>?_
 have Wr:=Hx hacc
 have hDn:H1 (s1.heap.objs.size+1)=none:=I1.hok.fresh (Nat.le_succ _)
 have e1:({s1 with heap:=s1.heap.push (revObj p ((its.toArray.size:Int)-1))}:Shared).heap.objs.size=s1.heap.objs.size+1:=ab5 ..
 have RX:acc'=its.reverse.toArray:=by rw[←Wr]
 subst RX
 have I3:=I2.laid (a:=({s1 with heap:=s1.heap.push (revObj p ((its.toArray.size:Int)-1))}:Shared).heap.objs.size) (o:=.lst xs.reverse) (t':=tk)
  (h':=({s1 with heap:=s1.heap.push (revObj p ((its.toArray.size:Int)-1))}:Shared).heap.push {cls:=.type "list",dict:=none,data:=.seq its.reverse.toArray c',slots:=#[]}) (λb o e=>abm _ e) (abh _)
  ⟨by rw[List.length_reverse];exact hz,its.reverse,c',rv.reverse,abC _ rfl⟩
 have f1:kU X pins (upd H1 ({s1 with heap:=s1.heap.push (revObj p ((its.toArray.size:Int)-1))}:Shared).heap.objs.size (.lst xs.reverse)) s1.heap.objs.size:=I1.wm hnew (by rw[aH (by rw[e1];exact abP (Nat.lt_succ_self _))];exact f0.1)
 have I4:=I3.turned (t':=tk) (h':=h') (it:=s1.heap.objs.size) (λb o hb e=>?_) f1.1 f1.2.1 f1.2.2.2.1 f1.2.2.2.2.1 f1.2.2.2.2.2
 ·exact⟨.ref _,_,I4,O,q _ (by rw[e1];exact hDn)⟩
 ·rcases Heap.get?_push_cases e with ⟨z,z2⟩|z
  ·rw[z,z2]
   exact hS
  ·exact hk b o hb z
end
def sg(c:Nat):Str:=⟨#[c]⟩
def QN(z:Str):It:=⟨λi _=>i<z.cps.size,λi H x H'=>H'=H/\∃c,z.cps[i]?=some c/\x=.str (sg c),λi _=>z.cps.size<=i⟩
theorem JN{P:Program}{w:World}{K:W.Frag}{tg:Expr}(it:Addr)(z:Str)(t:Tok):Turn P w K tg (QN z) [it] it (λi h=>h.IsStrIter it (strIterType z) z t i) where
 mem:=by simp
 obj:=λi h st b hb=>by
  have e:b=it:=by simpa using hb
  subst e
  obtain⟨o,e,c,d⟩:=st
  exact⟨o,e,λv z=>by rw[d]at z;cases z⟩
 keep:=λi h h' st k=>by
  obtain⟨o,e,r⟩:=st
  exact⟨o,k it (by simp) o e,r⟩
 item:=by
  intro X hP hw hK hc i pins s σ H E I hf st hg
  subst hP hw hK
  obtain⟨f0,f1,f2,f3,f4,f5⟩:=hf it (by simp)
  have hi:i<z.cps.size:=hg
  have hx:z.cps[i]?=some z.cps[i]:=by simp[hi]
  cases ha:z.cps.all (· < 128) with
  |true =>
   have et:strIterType z="str_ascii_iterator":=by simp only[strIterType,ha,acz]
   rw[et]at st⊢
   refine wpAny_pyNext_ascii_item st hx λh' st' sb=>?_
   have I1:Inv X pins σ H {s with heap:=h',toks:=s.toks+1}:=I.turned (λb o hb e=>(sb.2 b hb).trans e) f0 f1 f3 f4 f5
   obtain⟨o,e,c,d⟩:=id st'
   exact⟨_,rfl,CL (s:={s with heap:=h',toks:=s.toks+1}) e c d 'c' ⟨.str (sg z.cps[i]),H,I1,⟨_,rfl⟩,⟨rfl,_,hx,rfl⟩,st',λb hb=>(hf b hb).1⟩⟩
  |false =>
   have et:strIterType z="str_iterator":=by simp only[strIterType,ha,ab4,acH]
   rw[et]at st⊢
   refine wpAny_pyNext_wide_item st hx λh' st' sb=>?_
   have I1:Inv X pins σ H {s with heap:=h',toks:=s.toks+1}:=I.turned (λb o hb e=>(sb.2 b hb).trans e) f0 f1 f3 f4 f5
   obtain⟨o,e,c,d⟩:=id st'
   exact⟨_,rfl,CL (s:={s with heap:=h',toks:=s.toks+1}) e c d 'c' ⟨.str (sg z.cps[i]),H,I1,⟨_,rfl⟩,⟨rfl,_,hx,rfl⟩,st',λb hb=>(hf b hb).1⟩⟩
 done:=by
  intro X hP hw hK hc i pins s σ H E I hf st hg
  subst hP hw hK
  obtain⟨f0,f1,f2,f3,f4,f5⟩:=hf it (by simp)
  have hi:z.cps.size<=i:=hg
  have hx:z.cps[i]?=none:=by simp[hi]
  cases ha:z.cps.all (· < 128) with
  |true =>
   have et:strIterType z="str_ascii_iterator":=by simp only[strIterType,ha,acz]
   rw[et]at st
   exact wpAny_pyNext_ascii_end (I.ok.hd hc) st hx λh' eb=>⟨rfl,I.turned (t':=s.toks) (λb o hb e=>eb b o hb e) f0 f1 f3 f4 f5⟩
  |false =>
   have et:strIterType z="str_iterator":=by simp only[strIterType,ha,ab4,acH]
   rw[et]at st
   exact wpAny_pyNext_wide_end (I.ok.hd hc) st hx λh' eb=>⟨rfl,I.turned (t':=s.toks) (λb o hb e=>eb b o hb e) f0 f1 f3 f4 f5⟩
 self:=by
  intro A i s Q E st h
  cases ha:z.cps.all (· < 128) with
  |true =>
   have et:strIterType z="str_ascii_iterator":=by simp only[strIterType,ha,acz]
   rw[et]at st
   exact wpAny_pyIter_striter_ascii st h
  |false =>
   have et:strIterType z="str_iterator":=by simp only[strIterType,ha,ab4,acH]
   rw[et]at st
   exact wpAny_pyIter_striter_wide st h
section
variable{X:Cx}{tg:Expr}
def Ws(tl:TE):TI:=λσ H R=>tl σ H λx H1=>∃z,x=.str z/\R (QN z) H1
theorem Be{l:Expr}{tl:TE}(hl:PE X l tl):PI X tg l (Ws tl):=by
 intro pins s σ H R I h
 refine dJ (hl pins s σ H _ I h) λv s1 ⟨x,H1,I1,r1,q1⟩=>?_
 obtain⟨z,e,q⟩:=q1
 subst e
 obtain⟨t,rfl⟩:=r1
 refine wpAny_pyIter_strU ?_
 refine⟨s1.heap.objs.size,[s1.heap.objs.size],_,_,H1,rfl,I1.kept (t':=s1.toks) λb o e=>abm _ e,JN _ z t,⟨_,abC _ rfl,rfl,rfl⟩,λb hb=>?_,q⟩
 have e:b=s1.heap.objs.size:=by simpa using hb
 subst e
 exact I1.wm (abh _) (I1.hok.fresh (abh _))
end
theorem Ga{z:Str}{g:TG}{tb:TS}{D:Ends}{σ:St}{H:Hp}(Pv:Nat->St->Hp->Prop)(h0:Pv 0 σ H)(hs:∀i c σ H,z.cps.toList[i]?=some c->Pv i σ H->g (.str (sg c)) σ H λσ2 H2=>tb {D with nx:=Pv (i+1),ct:=Pv (i+1),bk:=D.nx} σ2 H2)(hd:∀σ H,Pv z.cps.toList.length σ H->D.nx σ H):∃W:Nat->Nat->St->Hp->Prop,(∃m,W 0 m σ H)/\∀i m σ H,W i m σ H->((QN z).stop i H/\D.nx σ H)\/((QN z).go i H/\∃N:St->Hp->Prop,(∀σ' H',N σ' H'->∃m',m'<m/\W (i+1) m' σ' H')/\∀x H',(QN z).LA i H x H'->g x σ H' λσ2 H2=>tb {D with nx:=N,ct:=N,bk:=D.nx} σ2 H2):=by
 refine⟨λi m σ H=>m=z.cps.size-i/\i<=z.cps.size/\Pv i σ H,⟨z.cps.size,by simp,abW _,h0⟩,?_⟩
 rintro i m σ H ⟨rfl,hi,p⟩
 by_cases hlt:i<z.cps.size
 ·refine .inr ⟨hlt,Pv (i+1),λσ' H' p'=>⟨z.cps.size-(i+1),by omega,rfl,hlt,p'⟩,λx H' y=>?_⟩
  obtain⟨e,c,hc,ex⟩:=y
  subst e ex
  exact hs i c σ _ (by simpa using hc) p
 ·have e:i=z.cps.size:=by omega
  subst e
  exact .inl ⟨abh _,hd σ H (by simpa using p)⟩
theorem bZ{K:W.Frag}{a:Addr}{xs:List V}{g:TG}{tt:TT}{te:TE}{Q:VK}{D:Addr}{τ:St}{H:Hp}(Pv:Nat->List V->St->Hp->Prop)(h0:Pv 0 [] τ (upd H D (.lst [])))(hl:∀i ys τ H,i<=xs.length->Pv i ys τ H->aN K H a xs/\H D=some (.lst ys))(hs:∀i x ys τ H,xs[i]?=some x->Pv i ys τ H->g x τ H λτ2 H2=>tt τ2 H2 λb H3=>if b=true then te τ2 H3 λy H4=>H4 D=some (.lst ys)/\ys.length<sizeLine/\Pv (i+1) (ys++[y]) τ2 (upd H4 D (.lst (ys++[y]))) else Pv (i+1) ys τ2 H3)(hd:∀ys τ H,Pv xs.length ys τ H->Q (.ref D) H):vv (QL K a) g tt te Q D τ H:=by
 refine⟨λi m ys τ H=>m=xs.length-i/\i<=xs.length/\Pv i ys τ H,⟨xs.length,by simp,abW _,h0⟩,?_⟩
 rintro i m ys τ H ⟨rfl,hi,p⟩
 obtain⟨q,hD⟩:=hl i ys τ H hi p
 refine⟨hD,?_⟩
 by_cases hlt:i<xs.length
 ·refine .inr ⟨⟨xs,xs[i],q,by simp[hlt]⟩,Pv (i+1),λzs σ' H' p'=>⟨xs.length-(i+1),by omega,rfl,hlt,p'⟩,λx H' y=>?_⟩
  obtain⟨e,y⟩:=y
  subst e
  exact hs i x ys τ _ (y xs q) p
 ·have e:i=xs.length:=by omega
  subst e
  exact .inl ⟨⟨xs,q,abh _⟩,hd ys τ H p⟩
theorem CU{z:Str}{g:TG}{tt:TT}{te:TE}{Q:VK}{D:Addr}{τ:St}{H:Hp}(Pv:Nat->List V->St->Hp->Prop)(h0:Pv 0 [] τ (upd H D (.lst [])))(hl:∀i ys τ H,i<=z.cps.toList.length->Pv i ys τ H->H D=some (.lst ys))(hs:∀i c ys τ H,z.cps.toList[i]?=some c->Pv i ys τ H->g (.str (sg c)) τ H λτ2 H2=>tt τ2 H2 λb H3=>if b=true then te τ2 H3 λy H4=>H4 D=some (.lst ys)/\ys.length<sizeLine/\Pv (i+1) (ys++[y]) τ2 (upd H4 D (.lst (ys++[y]))) else Pv (i+1) ys τ2 H3)(hd:∀ys τ H,Pv z.cps.toList.length ys τ H->Q (.ref D) H):vv (QN z) g tt te Q D τ H:=by
 have hz:z.cps.toList.length=z.cps.size:=by simp
 refine⟨λi m ys τ H=>m=z.cps.size-i/\i<=z.cps.size/\Pv i ys τ H,⟨z.cps.size,by simp,abW _,h0⟩,?_⟩
 rintro i m ys τ H ⟨rfl,hi,p⟩
 refine⟨hl i ys τ H 'b' p,?_⟩
 by_cases hlt:i<z.cps.size
 ·refine .inr ⟨hlt,Pv (i+1),λzs σ' H' p'=>⟨z.cps.size-(i+1),by omega,rfl,hlt,p'⟩,λx H' y=>?_⟩
  obtain⟨e,c,hc,ex⟩:=y
  subst e ex
  exact hs i c ys τ _ (by simpa using hc) p
 ·have e:i=z.cps.size:=by omega
  subst e
  exact .inl ⟨abh _,hd ys τ H (by rw[hz];exact p)⟩
theorem qq{lo:Int}{n:Nat}{g:TG}{tt:TT}{te:TE}{Q:VK}{D:Addr}{τ:St}{H:Hp}(Pv:Nat->List V->St->Hp->Prop)(h0:Pv 0 [] τ (upd H D (.lst [])))(hl:∀i ys τ H,i<=n->Pv i ys τ H->H D=some (.lst ys))(hs:∀i ys τ H,i<n->Pv i ys τ H->g (.int (lo+i)) τ H λτ2 H2=>tt τ2 H2 λb H3=>if b=true then te τ2 H3 λy H4=>H4 D=some (.lst ys)/\ys.length<sizeLine/\Pv (i+1) (ys++[y]) τ2 (upd H4 D (.lst (ys++[y]))) else Pv (i+1) ys τ2 H3)(hd:∀ys τ H,Pv n ys τ H->Q (.ref D) H):vv (NN lo n) g tt te Q D τ H:=by
 refine⟨λi m ys τ H=>m=n-i/\i<=n/\Pv i ys τ H,⟨n,by simp,abW _,h0⟩,?_⟩
 rintro i m ys τ H ⟨rfl,hi,p⟩
 refine⟨hl i ys τ H hi p,?_⟩
 by_cases hlt:i<n
 ·refine .inr ⟨hlt,Pv (i+1),λzs σ' H' p'=>⟨n-(i+1),by omega,rfl,hlt,p'⟩,λx H' y=>?_⟩
  obtain⟨e,y⟩:=y
  subst e y
  exact hs i ys τ _ hlt p
 ·have e:i=n:=by omega
  subst e
  exact .inl ⟨abh _,hd ys τ H p⟩
theorem Gb:∀{zs:List Str}{us:List Value},Vals (zs.map V.str) us->StrsAre us zs
 |[],_,r=>by cases r;exact .nil
 |z::zs,_,r=>by
  cases r with
  |cons r1 r2 =>
   obtain⟨t,e⟩:=r1
   subst e
   exact .cons z t (Gb r2)
section
variable{X:Cx}
def rJoin(K:W.Frag):V->List V->Hp->VK->Prop:=λx vs H Q=>∃z p zs,x=.str z/\vs=[.ref p]/\aN K H p (zs.map V.str)/\(zs.map (·.length)).sum+zs.length*z.length<=16777216/\Q (.str (Txt.join z zs)) H
theorem Me:L4 X "str.join" (rJoin X.K):=by
 intro pins s σ H x vs v us Q I rx rv h
 obtain⟨z,p,zs,rfl,rfl,hq,hz,q⟩:=h
 obtain⟨t,rfl⟩:=rx
 obtain⟨u,rfl,ru⟩:=rv.one
 cases ru
 obtain⟨its,r,pl,_⟩:=I.list hq
 exact join_list pl.isList (by simpa using Gb r) hz λt' k=>⟨.str _,H,I.tok k,⟨t',rfl⟩,q⟩
theorem CV:fk X (.builtin "isinstance") (λxs H Q=>∃x c t b,xs=[x,c]/\qp X.K H x t/\((∃n,c=.ty n/\W.kitOne X.K t (.type n)=some b)\/(∃a,c=.ref a/\W.kitOne X.K t (.ref a)=some b))/\Q (.bl b) H):=by
 intro pins s σ H xs us Q I r h
 obtain⟨x,c,t,b,rfl,ty,hc,q⟩:=h
 obtain⟨u,w',rfl,ru,rw'⟩:=vals2 r
 rcases hc with ⟨n,rfl,e⟩|⟨a,rfl,e⟩
 ·cases rw'
  exact Ak I ru ty e λtk=>⟨.bl b,H,I.tok tk,rfl,q⟩
 ·cases rw'
  exact Ak I ru ty e λtk=>⟨.bl b,H,I.tok tk,rfl,q⟩
end
section
variable{X:Cx}
end
section
variable{X:Cx}(K:W.Frag)(h:X.K=K)
include h
theorem JO:QM X (OC K):=by subst h;exact L6
theorem Mf:QM X (OD K):=by subst h;exact OE
theorem dD:Vf X (RL K):=by subst h;exact L7
theorem JP:L4 X "str.join" (rJoin K):=by subst h;exact Me
theorem aK:fk X (.builtin "len") (λxs H Q=>∃p ys,xs=[.ref p]/\(aN K H p ys\/bD K H p ys)/\Q (.int ys.length) H):=by subst h;exact Bb
theorem bW:fk X (.builtin "isinstance") (λxs H Q=>∃x c t b,xs=[x,c]/\qp K H x t/\((∃n,c=.ty n/\W.kitOne K t (.type n)=some b)\/(∃a,c=.ref a/\W.kitOne K t (.ref a)=some b))/\Q (.bl b) H):=by subst h;exact CV
theorem cy:fk X (.type "list") (λxs H Q=>∃p ys,xs=[.ref p]/\(aN K H p ys\/bD K H p ys)/\∀l,H l=none->Q (.ref l) (upd H l (.lst ys))):=by subst h;exact Bc
theorem jj:fk X (.type "tuple") (λxs H Q=>∃p ys,xs=[.ref p]/\((aN K H p ys/\∀l,H l=none->Q (.ref l) (upd H l (.tup ys)))\/(bD K H p ys/\Q (.ref p) H))):=by subst h;exact zh
theorem bL{tg l:Expr}{tl:TE}(hl:PE X l tl):PI X tg l (NO K tl):=by subst h;exact LQ hl
theorem Mg{tg l:Expr}{tl:TE}(hl:PE X l tl):PI X tg l (Ry K tl):=by subst h;exact Ox hl
theorem eZ{es:List Expr}{k:Nat}{pos:Pos}{t:NL}(n:Nat)(hc:X.calm=true)(hh:Rt X es t)(hn:(assignEach es X.env).length=n:=by rfl)(hst:(assignEach es X.env).findIdx? (·.1)=none:=by rfl):PG X (.Tuple es k pos) (Rw K n t):=by subst h;exact Ov hc hh hn hst
theorem CW{e:Expr}{p1 p2 pos1 pos2:Pos}{ta:TA}(hc:X.calm=true)(hg:Gl X "list")(hm:X.mg "list"=none)(RW:Gl X "reversed")(hm2:X.mg "reversed"=none)(ha:PA X [e] ta)(h1:starEach [.Call (.Name "reversed" p2) [e] [] pos2] X.env=[(false,eval (.Call (.Name "reversed" p2) [e] [] pos2) X.env)]:=by rfl)(h2:starEach [e] X.env=[(false,eval e X.env)]:=by rfl):PE X (.Call (.Name "list" p1) [.Call (.Name "reversed" p2) [e] [] pos2] [] pos1) (CS K ta):=by subst h;exact Ew hc hg hm RW hm2 ha h1 h2
theorem bJ{e:Expr}{ta:TE}{f:Str}{pos:Pos}(he:PE X e ta)(hb:attributeBase e f X.env (eval e X.env)=eval e X.env):PE X (.Attribute e f pos) (RE K ta f):=by subst h;exact OA he hb
theorem dw{o e:Expr}{es:List Expr}{to:TE}{t:TA}{name:Str}{apos cpos:Pos}{T id:String}{r:V->List V->Hp->VK->Prop}(pa:PlainAttrs T)(slot:Slot T name id)(hty:typeOf (.builtin id)=pure (.type "method_descriptor"))(hm:L4 X id r)(ho:PE X o to)(ha:PA X (e::es) t)(hbase:attributeBase o name X.env (eval o X.env)=eval o X.env:=by rfl)(hfew:((backTo cpos (starEach (e::es) X.env)).all (λx=>!x.1)&&(backToKw cpos (keywordEach [] X.env)).all (λx=>x.1.isSome)
  && decide ((e::es).length+([]:List Keyword).length+(if ([]:List Keyword).isEmpty then 0 else 1)<30))=true:=by rfl)(hline:(apos.endLine==cpos.line)=true:=by rfl)(hs:starEach (e::es) X.env=(false,eval e X.env)::starEach es X.env:=by rfl)(hplain:(backTo cpos (starEach es X.env)).any (·.1)=false:=by rfl):PE X (.Call (.Attribute o name apos) (e::es) [] cpos) (tBM K T r to t):=by subst h;exact RM pa slot hty hm ho ha hbase hfew hline hs hplain
end
section
variable{X:Cx}
theorem oN{x:Str}{z:Str}{t:Tok}{pos:Pos}(hg:Gl X x)(hm:X.mg x=some (.str z t))(hd:(x==("__debug__":Str))=false:=by decide):PE X (.Name x pos) (tC (.str z)):=AS hg hm ⟨t,rfl⟩ hd
theorem qU{x:Str}{a:Addr}{pos:Pos}(hg:Gl X x)(hm:X.mg x=some (.ref a))(hd:(x==("__debug__":Str))=false:=by decide):PE X (.Name x pos) (tC (.ref a)):=AS hg hm rfl hd
theorem OQ(n:String){x:Str}{pos:Pos}(hg:Gl X x)(hm:X.mg x=none)(hv:bootBuiltins x=some (.type n))(hn:x ≠ "__name__":=by decide)(hd:(x==("__debug__":Str))=false:=by decide):PE X (.Name x pos) (tC (.ty n)):=LO hg hm hv rfl hn hd
end
structure Mh(K:W.Frag)(x qual:Str)(st:Stmt)(f:Addr)(fd:FuncData)(dV:Value):Prop where
 ex:∃(oc:Value)(od:Option Addr)(kV doc pm:Value)(an:Option Addr)(cdv ct:Value)(osl:Array (Option Value)),fd=W.fnOf x qual (dQ st) (cK st) (aA st) dV kV doc pm an cdv ct/\K.lookup f=some ⟨oc,od,.func fd,osl⟩/\W.codeIn K cdv qual=true
 kp:W.keepIn K (.ref f)=true
section
variable{P:Program}{w:World}{K:W.Frag}{mg:Str->Option Value}{base:Heap}
theorem Mh.ok{x qual:Str}{st:Stmt}{f:Addr}{fd:FuncData}{dV:Value}{N ps:List Str}{k:Nat}{sp:Sp}(F:Mh K x qual st f fd dV)(S:aP N ps (aA st))(len:∀vs H Q E,sp vs H Q E->vs.length=ps.length)(hbody:∀(cdv:Value)(A:Around)(outer:List Env)(s:Shared)(H:Hp)(vs:List V)(Q:VK)(E:XK),dM k (A.deeper (envOfC qual (aA st) s.heap.objs.size f cdv))->sp vs H Q E->∃t,FJ (AW eH P w K mg base N qual (aA st) f cdv A outer s H E).QK (cK st) t/\t {nx:=λ_ H'=>Q .non H',rt:=Q} (start N vs) H):bu P w K mg base eH (k+1) f fd ps sp:=by
 obtain⟨oc,od,kV,doc,pm,an,cdv,ct,osl,rfl,lk,hcd⟩:=F.ex
 refine JA lk hcd S len λA outer s H vs Q E hr IY=>?_
 obtain⟨t,h,q⟩:=hbody cdv A outer s H vs Q E hr IY
 exact⟨t,h.QK,q⟩
theorem Mi{x qual:Str}{st:Stmt}{f:Addr}{oc dV:Value}{od an:Option Addr}{osl:Array (Option Value)}{kV doc pm cdv ct:Value}(l:K.lookup f=some ⟨oc,od,.func (W.fnOf x qual (dQ st) (cK st) (aA st) dV kV doc pm an cdv ct),osl⟩)(c:W.codeIn K cdv qual=true)(k:W.keepIn K (.ref f)=true):Mh K x qual st f (W.fnOf x qual (dQ st) (cK st) (aA st) dV kV doc pm an cdv ct) dV:=⟨⟨oc,od,kV,doc,pm,an,cdv,ct,osl,rfl,l,c⟩,k⟩
end
section
variable{X:Cx}
theorem vz:∀{bs:List Bool}{us:List Value}{i:Nat}{u:Value},Vals (bs.map V.bl) us->us[i]?=some u->u=.bool (bs.getD i true)
 |[],_,_,_,r,e=>by cases r;simp at e
 |b::bs,_,i,u,r,e=>by
  cases r with
  |cons r1 r2 =>
   cases i with
   |zero=>simp at e;subst e;exact r1
   |succ i=>simp at e;simpa using vz r2 e
theorem all_range(bs:List Bool):((List.range bs.length).all λi=>bs.getD i true)=bs.all id:=by
 rw[abS,abK,abK]
 constructor
 ·intro h b hb
  obtain⟨i,hi,rfl⟩:=List.mem_iff_getElem.mp hb
  have:=h i (by simpa using hi)
  simpa [List.getD,hi]using this
 ·intro h i hi
  have hi':i<bs.length:=by simpa using hi
  have:=h bs[i] (acM hi')
  simpa [List.getD,hi']using this
def RY(K:W.Frag):List V->Hp->VK->Prop:=λxs H Q=>∃(p:Addr)(bs:List Bool),xs=[.ref p]/\aN K H p (bs.map V.bl)/\Q (.bl (bs.all id)) H
theorem JQ(hc:X.calm=true):fk X (.builtin "all") (RY X.K):=by
 intro pins s σ H xs us Q I r h
 obtain⟨p,bs,rfl,hq,q⟩:=h
 obtain⟨u,rfl,ru⟩:=vals1 r
 cases ru
 obtain⟨its,rv,pl,hz⟩:=I.list hq
 have hlen:=rv.length
 rw[aa9]at hlen
 have hpl:p<s.heap.objs.size:=by obtain⟨o,ho,_⟩:=pl.isList;exact abu ho
 refine call_all_walk (wpAny_pyIter_list pl.isList ⟨s.heap.objs.size,_,_,_,_,_,λi=>bs.getD i true,rfl,Walks.list (A:=X.A.in1) (show X.A.in1.handled=none from I.ok.hd hc) s.heap.objs.size p (abP hpl) its.toArray,⟨⟨_,abC _ rfl,rfl,rfl⟩,pl.isList.at λo e=>abm _ e⟩,?_,?_⟩)
 ·intro i v s' Q' E' hv hq'
  have e:its[i]?=some v:=by simpa using hv
  rw[vz rv e]
  exact wpAny_truthy_bool hq'
 ·intro h' tk hk
  have f0:=I.wm (abh s.heap.objs.size) (I.hok.fresh (abh _))
  have I2:Inv X pins σ H {s with heap:=s.heap.push {cls:=.type "list_iterator",data:=.fields #[.ref p,rawInt 0]}}:=I.kept (t':=s.toks) λb o e=>abm _ e
  have I3:=I2.turned (h':=h') (t':=tk) (it:=s.heap.objs.size) (λb o hb e=>hk b o (by simpa using hb) e) f0.1 f0.2.1 f0.2.2.2.1 f0.2.2.2.2.1 f0.2.2.2.2.2
  refine⟨.bl (bs.all id),H,I3,?_,q⟩
  show Value.bool _=Value.bool _
  rw[abg,←hlen,all_range]
theorem kW(K:W.Frag)(h:X.K=K)(hc:X.calm=true):fk X (.builtin "all") (RY K):=by subst h;exact JQ hc
def OR:V->List V->Hp->VK->Prop:=λx vs H Q=>∃(z:Str)(c:Nat),x=.str z/\vs=[.str (sg c)]/\Q (.int (PyProof.Rows.cnt c z.cps.toList)) H
theorem CY:L4 X "str.count" OR:=by
 intro pins s σ H x vs v us Q I rx rv h
 obtain⟨z,c,rfl,rfl,q⟩:=h
 obtain⟨t,rfl⟩:=rx
 obtain⟨u,rfl,ru⟩:=rv.one
 obtain⟨t',rfl⟩:=ru
 exact SC.count ⟨.int _,H,I.tok _,⟨_,rfl⟩,by
  have e:Txt.count z (sg c)=PyProof.Rows.cnt c z.cps.toList:=PyProof.Rows.count_is z c
  rw[e];exact q⟩
theorem Ge:∀{l:List Nat}{c:Nat},l.Nodup->c∈l->PyProof.Rows.cnt c l=1
 |[],_,_,h=>by cases h
 |n::r,c,nd,h=>by
  rw[PyProof.Rows.cnt_cons]
  obtain⟨n1,n2⟩:=acg.mp nd
  by_cases e:n=c
  ·subst e
   rw[abj rfl,PyProof.Rows.cnt_none _ _ n1];rfl
  ·rw[abb e,Ge n2 ((abt.mp h).resolve_left (acu e))];rfl
def Ey:List V->List V->Bool
 |[],[]=>true
 |x::xs,y::ys=>Ar x y&&Ey xs ys
 |_,_=>false
theorem JR:∀{x:V},dN x=true->Ar x x=true
 | .non,_=>rfl
 | .bl b,_=>by cases b<;>rfl
 | .int i,_=>by simp[Ar]
 | .str z,_=>by simp[Ar]
def NS(xs ys:List V)(j:Nat):Bool:=match xs[j]?,ys[j]? with
 |some x,some y=>Ar x y
 |_,_=>true
theorem xS:∀(xs ys:List V),((List.range (min xs.length ys.length)).all (NS xs ys)&&xs.length==ys.length)=Ey xs ys
 |[],[]=>rfl
 |[],_::_=>by simp[Ey]
 |_::_,[]=>by simp[Ey]
 |x::xs,y::ys=>by
  have ih:=xS xs ys
  have e:min (x::xs).length (y::ys).length=min xs.length ys.length+1:=by rw[abF,abF];omega
  rw[e,List.range_succ_eq_map,acO,List.all_map]
  have e2:(NS (x::xs) (y::ys)∘Nat.succ)=NS xs ys:=by funext j;simp[NS]
  rw[e2]
  unfold Ey
  rw[←ih]
  have e3:((x::xs).length==(y::ys).length)=(xs.length==ys.length):=by simp
  rw[e3]
  show(Ar x y&&_&&_)=_
  rw[Bool.and_assoc]
def Wt(K:W.Frag):R2:=λx y H Q=>∃a b xs ys,x=.ref a/\y=.ref b/\bD K H a xs/\bD K H b ys/\xs.all dN=true/\ys.all dN=true/\Q (.bl (Ey xs ys)) H
theorem items_eqAt{A:Around}{s:Shared}{xs ys:List V}{us ws:List Value}(r1:Vals xs us)(r2:Vals ys ws)(f1:xs.all dN=true)(f2:ys.all dN=true)(j:Nat)(h1:j<us.toArray.size)(h2:j<ws.toArray.size):SeqAt.EqAt A s us.toArray[j] ws.toArray[j] (NS xs ys j):=by
 have hl1:=r1.length
 have hl2:=r2.length
 have hj1:j<xs.length:=by rw[hl1];simpa using h1
 have hj2:j<ys.length:=by rw[hl2];simpa using h2
 obtain⟨u,eu,ru⟩:=r1.get (i:=j) (x:=xs[j]) (by simp[hj1])
 obtain⟨w,ew,rw'⟩:=r2.get (i:=j) (x:=ys[j]) (by simp[hj2])
 have e1:us.toArray[j]=u:=by
  have:=abd.mp eu
  obtain⟨_,q⟩:=this
  simpa using q
 have e2:ws.toArray[j]=w:=by
  have:=abd.mp ew
  obtain⟨_,q⟩:=this
  simpa using q
 rw[e1,e2]
 have e3:NS xs ys j=Ar xs[j] ys[j]:=by simp[NS,hj1,hj2]
 rw[e3]
 exact A9 ru rw' (abK.mp f1 _ (acM hj1)) (abK.mp f2 _ (acM hj2))
theorem JS(K:W.Frag)(hK:X.K=K)(hu:X.A.units<cLine):oY X (compareOp .Eq) (Wt K):=by
 subst hK
 intro pins s σ H x y v u Q I rx ry h
 obtain⟨a,b,xs,ys,rfl,rfl,ha,hb,f1,f2,q⟩:=h
 cases rx
 cases ry
 obtain⟨its,r1,p1,_⟩:=I.tuple ha
 obtain⟨its2,r2,p2,_⟩:=I.tuple hb
 refine SeqAt.eq_tupleAt (e:=NS xs ys) p1 p2 hu (λj h1 h2=>items_eqAt r1 r2 f1 f2 j h1 h2) ⟨.bl _,H,I,?_,q⟩
 show Value.bool _=Value.bool _
 rw[abg,abg,←r1.length,←r2.length,xS]
end
inductive qV(K:W.Frag)(H:Hp):Nat->V->V->Prop where
 |flat {n:Nat}{x y:V}:dN x=true->dN y=true->Ar x y=true->qV K H n x y
 |ref {n:Nat}{a:Addr}:qV K H n (.ref a) (.ref a)
 |tup {n:Nat}{a b:Addr}{xs ys:List V}:bD K H a xs->bD K H b ys->xs.length=ys.length->(∀(j:Nat) x y,xs[j]?=some x->ys[j]?=some y->qV K H n x y)->qV K H (n+1) (.ref a) (.ref b)
 |lst {n:Nat}{a b:Addr}{xs ys:List V}:aN K H a xs->aN K H b ys->xs.length=ys.length->(∀(j:Nat) x y,xs[j]?=some x->ys[j]?=some y->qV K H n x y)->qV K H (n+1) (.ref a) (.ref b)
theorem all_true(n:Nat):(List.range n).all (λ_=>true)=true:=by rw[abK];intro _ _;rfl
section
variable{X:Cx}{pins:List (Addr×Obj)}{σ:St}{H:Hp}{s:Shared}
theorem lI{A:Around}{R:V->V->Prop}{xs ys:List V}{us ws:List Value}(r1:Vals xs us)(r2:Vals ys ws)(h:∀(j:Nat) x y u w,xs[j]?=some x->ys[j]?=some y->RelV x u->RelV y w->SeqAt.EqAt A s u w true)(j:Nat)(h1:j<us.toArray.size)(h2:j<ws.toArray.size):SeqAt.EqAt A s us.toArray[j] ws.toArray[j] true:=by
 have hl1:=r1.length
 have hl2:=r2.length
 have hj1:j<xs.length:=by rw[hl1];simpa using h1
 have hj2:j<ys.length:=by rw[hl2];simpa using h2
 obtain⟨u,eu,ru⟩:=r1.get (i:=j) (x:=xs[j]) (by simp[hj1])
 obtain⟨w,ew,rw'⟩:=r2.get (i:=j) (x:=ys[j]) (by simp[hj2])
 have e1:us.toArray[j]=u:=by
  obtain⟨_,q⟩:=abd.mp eu
  simpa using q
 have e2:ws.toArray[j]=w:=by
  obtain⟨_,q⟩:=abd.mp ew
  simpa using q
 rw[e1,e2]
 exact h j _ _ u w (by simp[hj1]) (by simp[hj2]) ru rw'
theorem Au(I:Inv X pins σ H s){n:Nat}{x y:V}(h:qV X.K H n x y):∀{A:Around}{u v:Value},A.units+n<cLine->RelV x u->RelV y v->SeqAt.EqAt A s u v true:=by
 induction h with
 |flat f1 f2 e=>intro A u v _ ru rv;rw[←e];exact A9 ru rv f1 f2
 |ref=>intro A u v _ ru rv;cases ru;cases rv;exact acE _
 |@tup n a b xs ys ha hb hl _ ih =>
  intro A u v hu ru rv
  cases ru;cases rv
  by_cases e:a=b
  ·subst e;exact acE _
  ·obtain⟨its,r1,p1,_⟩:=I.tuple ha
   obtain⟨its2,r2,p2,_⟩:=I.tuple hb
   refine acC e ?_
   have q:=SeqAt.RcAt.tuples (A:=A) (e:=λ_=>true) p1 p2 'b' λj h1 h2=>lI (R:=λ_ _=>True) r1 r2 (λj x y u w ex ey ru rw'=>ih j x y ex ey (by show A.units+1+n<cLine;omega) ru rw') j h1 h2
   have e2:((List.range (min its.toArray.size its2.toArray.size)).all (λ_=>true)&&its.toArray.size==its2.toArray.size)=true:=by
    rw[all_true,abg,abg,←r1.length,←r2.length,hl];simp
   rw[e2]at q
   exact q
 |@lst n a b xs ys ha hb hl _ ih =>
  intro A u v hu ru rv
  cases ru;cases rv
  by_cases e:a=b
  ·subst e;exact acE _
  ·obtain⟨its,r1,p1,_⟩:=I.list ha
   obtain⟨its2,r2,p2,_⟩:=I.list hb
   refine acC e ?_
   have q:=SeqAt.RcAt.lists (A:=A) (e:=λ_=>true) p1.isList p2.isList (by rw[abg,abg,←r1.length,←r2.length,hl]) 'b' λj h1 h2=>lI (R:=λ_ _=>True) r1 r2 (λj x y u w ex ey ru rw'=>ih j x y ex ey (by show A.units+1+n<cLine;omega) ru rw') j h1 h2
   rw[all_true]at q
   exact q
end
section
variable{X:Cx}
def TopD(K:W.Frag)(H:Hp)(x y:V):Prop:=∃(n:Nat)(a b:Addr)(xs ys:List V),x=.ref a/\y=.ref b/\n<=50/\xs.length=ys.length/\((bD K H a xs/\bD K H b ys)\/(aN K H a xs/\aN K H b ys))/\∀(j:Nat) x y,xs[j]?=some x->ys[j]?=some y->qV K H n x y
def Wu(K:W.Frag):R2:=λx y H Q=>TopD K H x y/\Q (.bl false) H
theorem OS(K:W.Frag)(hK:X.K=K)(hu:X.A.units+64<cLine):oY X (compareOp .NotEq) (Wu K):=by
 subst hK
 intro pins s σ H x y v u Q I rx ry h
 obtain⟨⟨n,a,b,xs,ys,rfl,rfl,hn,hl,hk,hs⟩,q⟩:=h
 cases rx;cases ry
 show wpAny _ _ (richCompare .NotEq (.ref a) (.ref b)) _ _ _
 rcases hk with ⟨ha,hb⟩|⟨ha,hb⟩
 ·obtain⟨its,r1,p1,_⟩:=I.tuple ha
  obtain⟨its2,r2,p2,_⟩:=I.tuple hb
  refine SeqAt.RcNeAt.tuples (e:=λ_=>true) p1 p2 'b' (λj h1 h2=>lI (R:=λ_ _=>True) r1 r2 (λj x y u w ex ey ru rw'=>Au I (hs j x y ex ey) (by show X.A.units+1+n<cLine;omega) ru rw') j h1 h2) _ _ _ _ ⟨.bl false,H,I,?_,q⟩
  show Value.bool _=Value.bool _
  rw[all_true,abg,abg,←r1.length,←r2.length,hl];simp
 ·obtain⟨its,r1,p1,_⟩:=I.list ha
  obtain⟨its2,r2,p2,_⟩:=I.list hb
  refine SeqAt.RcNeAt.lists (e:=λ_=>true) p1.isList p2.isList (by rw[abg,abg,←r1.length,←r2.length,hl]) 'b' (λj h1 h2=>lI (R:=λ_ _=>True) r1 r2 (λj x y u w ex ey ru rw'=>Au I (hs j x y ex ey) (by show X.A.units+1+n<cLine;omega) ru rw') j h1 h2) _ _ _ _ ⟨.bl false,H,I,?_,q⟩
  show Value.bool _=Value.bool _
  rw[all_true];rfl
def OT(K:W.Frag):List V->Hp->VK->Prop:=λxs H Q=>∃(a:Addr)(c:String)(ys:List V)(b:Bool),xs=[.ref a,.ty c]/\((bD K H a ys/\W.kitOne K (.type "tuple") (.type c)=some b)\/(aN K H a ys/\W.kitOne K (.type "list") (.type c)=some b))/\Q (.bl b) H
theorem CZ(K:W.Frag)(hK:X.K=K):fk X (.builtin "isinstance") (OT K):=by
 subst hK
 intro pins s σ H xs us Q I r h
 obtain⟨a,c,ys,b,rfl,hk,q⟩:=h
 obtain⟨u,w',rfl,ru,rw'⟩:=vals2 r
 cases ru;cases rw'
 have fin:∀tk,EP X pins σ Q (.bool b) {s with toks:=tk}:=λtk=>⟨.bl b,H,I.tok tk,rfl,q⟩
 rcases hk with ⟨ha,e⟩|⟨ha,e⟩
 ·obtain⟨its,r1,p1,_⟩:=I.tuple ha
  obtain⟨o,h1,h2,_⟩:=p1
  exact acv W.kitx_tuple I.tR ⟨o,h1,h2⟩ e (λz=>nomatch z) fin
 ·obtain⟨its,r1,p1,_⟩:=I.list ha
  obtain⟨o,h1,h2,_⟩:=p1.isList
  exact acv W.kitx_list I.tR ⟨o,h1,h2⟩ e (λz=>nomatch z) fin
end
section
variable{X:Cx}
theorem Mj{x:Str}{z:Int}{t:Tok}{pos:Pos}(hg:Gl X x)(hm:X.mg x=some (.int z t))(hd:(x==("__debug__":Str))=false:=by decide):PE X (.Name x pos) (tC (.int z)):=AS hg hm ⟨t,rfl⟩ hd
end
section
variable{X:Cx}{CX:Hr}{k:Nat}{f C:Addr}{fd:FuncData}{ps ks:List Str}{sp:Sp}{E:XK}{x m:Str}{p pos apos kpos:Pos}{e o:Expr}{es:List Expr}{kws:List Keyword}{te ta:TE}{t tk:TA}{nm:Option Str}{g:List Value->List Value->List Value}{gV:List V->List V->List V}
end
section
variable{X:Cx}{pins:List (Addr×Obj)}{σ:St}{H:Hp}{s:Shared}
end
section
variable{X:Cx}
end
theorem JT{X:Cx}:Vf X (λx lo hi H Q=>∃z,x=.str z/\z.length<=sizeLine/\Q (.str (Txt.slice z lo hi)) H):=by
 intro pins s σ H x v vl vu lo hi sl Q I rx hs pl pu h
 obtain⟨z,rfl,hz,q⟩:=h
 obtain⟨t,rfl⟩:=rx
 refine⟨"str",_,F.slot_str_getitem.lookup,typeIs_str _ _ _,?_⟩
 cases pl with
 |none =>
  cases pu with
  |none=>exact acw (l:=none) (u:=none) (st:=none) hs rfl (post_val_or_str ⟨abv (Txt.slice_le z _ _) hz,λt' k=>⟨.str _,H,I.tok _,⟨_,rfl⟩,q⟩⟩)
  |int j uj=>exact acw (l:=none) (u:=some (j,uj)) (st:=none) hs rfl (post_val_or_str ⟨abv (Txt.slice_le z _ _) hz,λt' k=>⟨.str _,H,I.tok _,⟨_,rfl⟩,q⟩⟩)
 |int i ui =>
  cases pu with
  |none=>exact acw (l:=some (i,ui)) (u:=none) (st:=none) hs rfl (post_val_or_str ⟨abv (Txt.slice_le z _ _) hz,λt' k=>⟨.str _,H,I.tok _,⟨_,rfl⟩,q⟩⟩)
  |int j uj=>exact acw (l:=some (i,ui)) (u:=some (j,uj)) (st:=none) hs rfl (post_val_or_str ⟨abv (Txt.slice_le z _ _) hz,λt' k=>⟨.str _,H,I.tok _,⟨_,rfl⟩,q⟩⟩)
section
variable{X:Cx}{pins:List (Addr×Obj)}{σ:St}{H:Hp}{s:Shared}{h':Heap}
theorem Inv.Gf{t':Nat}{wr:List Addr}(I:Inv X pins σ H s)(k:∀b o,b∉wr->s.heap.get? b=some o->h'.get? b=some o)(hf:∀it∈wr,kU X pins H it):Inv X pins σ H {s with heap:=h',toks:=t'}:=by
 have Rk:∀b u,H b=some u->b∉wr:=λb u e z=>by rw[(hf b z).1]at e;cases e
 have hL:X.env.locals∉wr:=λz=>(hf _ z).2.1 rfl
 refine I.step (g':=s.gens) (d':=s.drawn) (ch:=wr) (λb hb=>?_) (λb o _ _ hc e _=>k b o hc e) (λb o _ _ hc e _=>⟨o.slots,k b o hc e⟩) (λ_ _ _ _ n=>n)
  (λb o hc e=>⟨o,k b o hc e⟩) (λ_ _ e=>e) (λ_ _ _ e=>e) (λb ps e=>⟨#[],by rw[e];simp⟩) (λm hm=>?_) (λb u e=>?_) I.bare
 ·obtain⟨f0,f1,f2,f3,f4,f5⟩:=hf b hb
  exact⟨f3,f1,f4,f5⟩
 ·obtain⟨o,es,ep,ho,r⟩:=hm
  exact⟨o,es,ep,k _ o hL ho,r⟩
 ·refine(I.hok b u e).stay (λc v hc q=>k c v ?_ q) (λ_ q=>q) λ_ _ q=>q
  rcases hc with z|z
  ·rw[z];exact Rk b u e
  ·exact Rk c _ z
end
def hmid(h h2:Heap):Heap:=⟨h.objs++(h2.objs.toList.drop h.objs.size).toArray,h2.life⟩
theorem JU{h h2:Heap}{a:Addr}(ha:a<h.objs.size):(hmid h h2).get? a=h.get? a:=by
 have e:(hmid h h2).objs[a]?=h.objs[a]?:=Array.getElem?_append_left ha
 unfold Heap.get?
 rw[e]
theorem JV{h h2:Heap}{a:Addr}(ha:h.objs.size<=a):(hmid h h2).get? a=h2.get? a:=by
 have e:(hmid h h2).objs[a]?=h2.objs[a]?:=by
  show(h.objs++(h2.objs.toList.drop h.objs.size).toArray)[a]?=_
  rw[Array.getElem?_append_right ha,List.getElem?_toArray,List.getElem?_drop,Array.getElem?_toList]
  congr 1
  omega
 unfold Heap.get?
 rw[e]
theorem Av{X:Cx}{pins:List (Addr×Obj)}{σ:St}{H:Hp}{s:Shared}{E:Value->Shared->Prop}{it:Addr}{Wv wr fp:List Addr}{n:Nat}{Pt:Nat->Array Value->Prop}{QO:Nat->Heap->Prop}{Mid:Nat->Addr->Heap->Prop}{elts:List Expr}{k:Nat}{pos:Pos}{J:It}{tn:Nat->Heap->Prop}{i:Nat}(W:WalksT X.prog X.w X.A it Wv wr n Pt QO Mid)(I:Inv X pins σ H s)(hfp:∀b∈fp,kU X pins H b)(hwr:∀b∈wr,b∈fp)(hsz:∀b∈fp,b<s.heap.objs.size)(hi:i<n)(hst:QO i s.heap)(hv:∀vals,Pt i vals->∃vs:List V,vs.length<=sizeLine/\Vals vs vals.toList/\∀T,H T=none->J.LA i H (.ref T) (upd H T (.tup vs)))(Ww:∀h,QO (i+1) h->tn (i+1) h):wpAny 'f' X.A (pyNext (.ref it)) (λr s1=>∃u,r=some u/\wpAny 'f' X.A (letOwnedTupleGo (.Tuple elts k pos) (.ref it) u) (λ_ s2=>∃x H',Inv X pins σ H' s2/\RelV x u/\J.LA i H x H'/\tn (i+1) s2.heap/\∀b∈fp,H' b=none) E s1) E s:=by
 refine W.item i s _ E hi hst λT vals h1 tk hPt hT Wx RZ hk=>⟨.ref T,rfl,?_⟩
 have hap:=W.apart i T h1 RZ
 refine W.go elts k pos i T _ _ E RZ λh2 hSt hk2=>?_
 obtain⟨vs,hlen,R0,hy⟩:=hv vals hPt
 have hTn:H T=none:=I.hok.fresh hT
 obtain⟨o,ho,hoc,m,hod⟩:=Wx
 have ho2:h2.get? T=some o:=hk2 T o hap ho
 have I1:Inv X pins σ (upd H T (.tup vs)) {s with heap:=hmid s.heap h2,toks:=tk}:=by
  refine I.laid (λb u e=>(JU (abu e)).trans e) hT ?_
  refine⟨hlen,vals.toList,R0,⟨o,(JV hT).trans ho2,hoc,m,?_⟩⟩
  rw[hod]
 have hne:∀b∈fp,b≠T:=λb hb e=>by
  have:=hsz b hb
  rw[e]at this
  exact absurd this (Nat.not_lt.mpr hT)
 have I2:=I1.Gf (h':=h2) (t':=tk) (wr:=wr) (λb ob hb e=>?_) (λb hb=>?_)
 ·exact⟨.ref T,_,I2,O,hy T hTn,Ww _ hSt,λb hb=>(aH (hne b hb)).trans (hfp b hb).1⟩
 ·by_cases hlt:b<s.heap.objs.size
  ·have e:s.heap.get? b=some ob:=(JU hlt).symm.trans e
   exact hk2 b ob hb (hk b ob hb e)
  ·exact(JV (Nat.le_of_not_lt hlt)).symm.trans e
 ·have f:=hfp b (hwr b hb)
  exact⟨(aH (hne b (hwr b hb))).trans f.1,f.2⟩
theorem Aw{X:Cx}{pins:List (Addr×Obj)}{σ:St}{H:Hp}{s:Shared}{E:Value->Shared->Prop}{it:Addr}{Wv wr fp:List Addr}{n:Nat}{Pt:Nat->Array Value->Prop}{QO:Nat->Heap->Prop}{Mid:Nat->Addr->Heap->Prop}(W:WalksT X.prog X.w X.A it Wv wr n Pt QO Mid)(I:Inv X pins σ H s)(hfp:∀b∈fp,kU X pins H b)(hwr:∀b∈wr,b∈fp)(hst:QO n s.heap):wpAny 'f' X.A (pyNext (.ref it)) (λr s1=>r=none/\Inv X pins σ H s1) E s :=
 W.done s _ E hst λh1 tk hk=>⟨rfl,I.Gf (h':=h1) (t':=tk) (wr:=wr) hk λb hb=>hfp b (hwr b hb)⟩
def Vk(K:W.Frag)(a b:Addr):It :=
 ⟨λi H=>∃xs ys x y,aN K H a xs/\aN K H b ys/\xs[i]?=some x/\ys[i]?=some y,λi H v H'=>∃t x y,H t=none/\v=.ref t/\H'=upd H t (.tup [x,y])/\(∀xs,aN K H a xs->xs[i]?=some x)/\(∀ys,aN K H b ys->ys[i]?=some y),λi H=>∃xs ys,aN K H a xs/\aN K H b ys/\min xs.length ys.length=i⟩
theorem JW{P:Program}{w:World}{K:W.Frag}{elts:List Expr}{k:Nat}{pos:Pos}{z TI TO i1 i2 l1 l2:Addr}(D:ZipApart z TI TO i1 i2 l1 l2):Turn P w K (.Tuple elts k pos) (Vk K l1 l2) [z,TI,TO,i1,i2] z (λi h=>IsZip h z TI TO .none/\IsPair h TI (.ref i1) (.ref i2)/\(∃a b,IsPair h TO a b)/\h.IsListIter i1 l1 i/\h.IsListIter i2 l2 i) where
 mem:=by simp
 obj:=λi h st b hb=>by
  obtain⟨hz,hTI,⟨x,y,hTO⟩,⟨o1,e1,c1,d1⟩,⟨o2,e2,c2,d2⟩⟩:=st
  simp only[abt,ab8,or_false]at hb
  rcases hb with rfl|rfl|rfl|rfl|rfl
  ·exact⟨_,hz,λv q=>by cases q⟩
  ·exact⟨_,hTI,λv q=>by cases q⟩
  ·exact⟨_,hTO,λv q=>by cases q⟩
  ·exact⟨_,e1,λv q=>by rw[d1]at q;cases q⟩
  ·exact⟨_,e2,λv q=>by rw[d2]at q;cases q⟩
 keep:=λi h h' st k=>by
  obtain⟨hz,hTI,⟨x,y,hTO⟩,q1,q2⟩:=st
  exact⟨k z (by simp) _ hz,k TI (by simp) _ hTI,⟨x,y,k TO (by simp) _ hTO⟩,q1.at λo e=>k i1 (by simp) o e,q2.at λo e=>k i2 (by simp) o e⟩
 item:=by
  intro X hP hw hK hc i pins s σ H E I hf st hg
  subst hP hw hK
  obtain⟨xs,ys,x,y,hx,hy,ex,ey⟩:=hg
  obtain⟨its,rv,p,hz⟩:=I.list hx
  obtain⟨its2,Vl,p2,hz2⟩:=I.list hy
  obtain⟨u,hu,ru⟩:=rv.get ex
  obtain⟨u2,hu2,ru2⟩:=Vl.get ey
  obtain⟨s1,s2,s3,s4,s5⟩:=id st
  have W:=WalksT.zip2 (prog:=X.prog) (w:=X.w) (A:=X.A) (I.ok.hd hc) z TI TO i1 i2 l1 l2 D its.toArray its2.toArray
  have hsub:∀b∈[z,TO,i1,i2],b∈[z,TI,TO,i1,i2]:=by intro b hb;simp at hb⊢;rcases hb with h|h|h|h<;>simp[h]
  refine Av (J:=Vk X.K l1 l2) (tn:=λi h=>IsZip h z TI TO .none/\IsPair h TI (.ref i1) (.ref i2)/\(∃a b,IsPair h TO a b)/\h.IsListIter i1 l1 i/\h.IsListIter i2 l2 i) W I hf hsub ?_ ?_ ?_ ?_ ?_
  ·intro b hb
   simp only[abt,ab8,or_false]at hb
   obtain⟨x',y',s3⟩:=s3
   obtain⟨o1,e1,_⟩:=s4
   obtain⟨o2,e2,_⟩:=s5
   rcases hb with rfl|rfl|rfl|rfl|rfl
   ·exact abu s1
   ·exact abu s2
   ·exact abu s3
   ·exact abu e1
   ·exact abu e2
  ·have h1:=(abd.mp hu).1
   have h2:=(abd.mp hu2).1
   simp only[abg]
   omega
  ·exact⟨s1,s2,s3,s4,s5,p.isList,p2.isList⟩
  ·intro vals hp
   obtain⟨v1,v2,e1,e2,rfl⟩:=hp
   have e1:its[i]?=some v1:=by simpa using e1
   have e2:its2[i]?=some v2:=by simpa using e2
   rw[hu]at e1;cases e1
   rw[hu2]at e2;cases e2
   exact⟨[x,y],(by show 2<=sizeLine;decide),.cons ru (.cons ru2 .nil),λT hT=>⟨T,x,y,hT,O,O,λzs hz=>by rw[I.qP hz hx];exact ex,λzs hz=>by rw[I.qP hz hy];exact ey⟩⟩
  ·exact λh q=>⟨q.1,q.2.1,q.2.2.1,q.2.2.2.1,q.2.2.2.2.1⟩
 done:=by
  intro X hP hw hK hc i pins s σ H E I hf st hg
  subst hP hw hK
  obtain⟨xs,ys,hx,hy,hmin⟩:=hg
  obtain⟨its,rv,p,hz⟩:=I.list hx
  obtain⟨its2,Vl,p2,hz2⟩:=I.list hy
  obtain⟨s1,s2,s3,s4,s5⟩:=id st
  have e:i=min its.toArray.size its2.toArray.size:=by rw[abg,abg,←rv.length,←Vl.length,hmin]
  subst e
  have W:=WalksT.zip2 (prog:=X.prog) (w:=X.w) (A:=X.A) (I.ok.hd hc) z TI TO i1 i2 l1 l2 D its.toArray its2.toArray
  have hsub:∀b∈[z,TO,i1,i2],b∈[z,TI,TO,i1,i2]:=by intro b hb;simp at hb⊢;rcases hb with h|h|h|h<;>simp[h]
  exact Aw W I hf hsub ⟨s1,s2,s3,s4,s5,p.isList,p2.isList⟩
 self:=λ_ _ _ _ _ st h=>wpAny_pyIter_zip st.1 h
theorem JX(I l1 l2:Nat)(h1:@LT.lt Nat _ l1 I)(h2:@LT.lt Nat _ l2 I):ZipApart (I+4) (I+2) (I+3) I (I+1) l1 l2:=by
 constructor<;>(intro e;have e':=@id (@Eq Nat _ _) e;omega)
def Wy(K:W.Frag)(ta:TA):TI:=λσ H R=>ta σ H λvs H1=>∃a b,vs=[.ref a,.ref b]/\(∃xs,aN K H1 a xs)/\(∃ys,aN K H1 b ys)/\R (Vk K a b) H1
theorem Gg{X:Cx}{elts:List Expr}{k:Nat}{tpos:Pos}{a b:Expr}{ta:TA}{p pos:Pos}(K:W.Frag)(hK:X.K=K)(hg:Gl X "zip")(hm:X.mg "zip"=none)(ha:PA X [a,b] ta)(hs:starEach [a,b] X.env=[(false,eval a X.env),(false,eval b X.env)]:=by rfl)(hs2:starEach [b] X.env=[(false,eval b X.env)]:=by rfl):PI X (.Tuple elts k tpos) (.Call (.Name "zip" p) [a,b] [] pos) (Wy K ta):=by
 subst hK
 intro pins s σ H R I h
 refine Call_ (ko I hg hm (u:=.type "zip") (by decide +kernel) (ab1 (dJ (ha pos pins s σ H _ I h) λus s1 ⟨vs,H1,I1,r1,q1⟩=>?_) (by rw[hs,hs2]) (by rw[hs2];rfl)))
 obtain⟨l1,l2,e,⟨xs,hx⟩,⟨ys,hy⟩,q⟩:=q1
 subst e
 cases r1 with
 |cons r rr =>
  cases rr with
  |cons r' rr =>
   cases rr
   cases r;cases r'
   obtain⟨its,rv,pl,hz⟩:=I1.list hx
   obtain⟨its2,Vl,pl2,hz2⟩:=I1.list hy
   have Wz:l1<s1.heap.objs.size:=by obtain⟨o,ho,_⟩:=pl.isList;exact abu ho
   have WA:l2<s1.heap.objs.size:=by obtain⟨o,ho,_⟩:=pl2.isList;exact abu ho
   refine call_zip_2 pl.isList pl2.isList λh' hz' hTI hTO hi1 hi2 hsz hk=>?_
   refine wpAny_pyIter_zip hz' ?_
   have D:=JX s1.heap.objs.size l1 l2 Wz WA
   have I2:Inv X pins σ H1 {s1 with heap:=h'}:=I1.kept (t':=s1.toks) λb o e=>hk b o e
   refine⟨s1.heap.objs.size+4,_,_,_,H1,O,I2,JW D,⟨hz',hTI,⟨_,_,hTO⟩,hi1,hi2⟩,λb hb=>?_,q⟩
   have hb':s1.heap.objs.size<=b:=by
    simp only[abt,ab8,or_false]at hb
    rcases hb with rfl|rfl|rfl|rfl|rfl
    ·exact aci _ _
    ·exact aci _ _
    ·exact aci _ _
    ·exact abh _
    ·exact aci _ _
   exact I1.wm hb' (I1.hok.fresh hb')
def OU(K:W.Frag)(te Ml:TE):TE:=λσ H Q=>te σ H λx H1=>Ml σ H1 λst H2=>∃a xs,x=.ref a/\st=.int (-1)/\aN K H2 a xs/\∀p,H2 p=none->Q (.ref p) (upd H2 p (.lst xs.reverse))
theorem Hy{X:Cx}{e st:Expr}{te Ml:TE}{p2 pos:Pos}(K:W.Frag)(hK:X.K=K)(he:PE X e te)(hst:PE X st Ml):PE X (.Subscript e (.Slice none none (some st) p2) pos) (OU K te Ml):=by
 subst hK
 intro pins s σ H Q I h
 refine Subscript_ (dJ (he pins s σ H _ I h) λv s1 ⟨x,H1,I1,r1,q1⟩=>?_)
 refine wpAny_Slice ?_
 rw[evalPart_none]
 refine abz ?_
 refine abz ?_
 rw[evalPart_some]
 refine dJ (hst pins s1 σ H1 _ I1 q1) λvs s3 ⟨y,H3,I3,r3,q3⟩=>?_
 obtain⟨a,xs,rfl,rfl,hx,q⟩:=q3
 cases r1
 obtain⟨t,rfl⟩:=r3
 have I4:Inv X pins σ H3 {s3 with heap:=s3.heap.push {cls:=.type "slice",data:=.fields #[.none,.none,.int (-1) t]}}:=I3.kept (t':=s3.toks) λb ob q=>abm _ q
 obtain⟨its,r,ht,hz⟩:=I4.list hx
 have hlen:=r.length
 show wpAny 'f' X.A (subscriptTail e (.Slice none none (some st) p2) (.ref a) (.ref s3.heap.objs.size)) (EP X pins σ Q) X.xe {s3 with heap:=s3.heap.push {cls:=.type "slice",data:=.fields #[.none,.none,.int (-1) t]}}
 refine tail_any (ops:=[.ref a,.ref s3.heap.objs.size]) ht.isList.typeIs slot_list_getitem.lookup ?_ (by with_unfolding_all rfl)
 refine wpAny_getItem_list_slice ht.isList (Heap.IsSliceOf.new ..) .none .none (.int _ t) 'c' ?_ (by rw[abg]<;>omega)
 rw[W.krv_pick]
 refine⟨.ref _,_,I4.laid (t':=s3.toks) (o:=.lst xs.reverse) (λb ob q=>abm _ q) (abh _) ?_,rfl,q _ (I4.hok.fresh (abh _))⟩
 refine⟨by rw[List.length_reverse];exact hz,its.reverse,0,r.reverse,?_⟩
 exact abC _ rfl
theorem lJ:∀{ns:List Nat}{us:List Value}{i:Nat}{v:Value},Vals (ns.map λn:Nat=>V.int n) us->us[i]?=some v->∃t,v=.int (ns.getD i 0:Nat) t
 |[],_,i,v,r,e=>by cases r;simp at e
 |n::ns,_,0,v,r,e=>by
  cases r with
  |cons r1 r2 =>
   simp at e
   subst e
   obtain⟨t,e⟩:=r1
   exact⟨t,by simpa using e⟩
 |n::ns,_,i+1,v,r,e=>by
  cases r with
  |cons r1 r2 =>
   obtain⟨t,e2⟩:=lJ r2 (i:=i) (v:=v) (by simpa using e)
   exact⟨t,by simpa using e2⟩
theorem xT{y:V}:∀{xs:List V}{us:List Value},Vals xs us->xs.all dN=true->us.countP (Vg y)=xs.countP (λz=>Ar z y)
 |_,_,.nil,_=>rfl
 |x::xs,u::us,.cons r t,f=>by
  rw[acO,Bool.and_eq_true]at f
  rw[List.countP_cons,List.countP_cons,xT t f.2,JD r f.1]
section
variable{X:Cx}
def Gh(K:W.Frag):V->List V->Hp->VK->Prop:=λx vs H Q=>∃(p:Addr)(xs:List V)(y:V),x=.ref p/\vs=[y]/\aN K H p xs/\dN y=true/\xs.all dN=true/\Q (.int (xs.countP λz=>Ar z y:Nat)) H
theorem Hz:L4 X "list.count" (Gh X.K):=by
 intro pins s σ H x vs v us Q I rx rv h
 obtain⟨p,xs,y,rfl,rfl,hq,fy,fs,q⟩:=h
 cases rx
 obtain⟨u,rfl,ru⟩:=rv.one
 obtain⟨its,r,pl,_⟩:=I.list hq
 obtain⟨⟨cls,dd,data,sl⟩,ho,hc,n,hd⟩:=pl.isList
 simp only at hc hd
 subst hc hd
 refine call_meets F.slot_list_count ⟨_,ho,rfl⟩ F.entry_list_count (F.args_list_count_2 _ _) (SeqAt.list_countAt p its.toArray n dd sl u (Vg y)) ⟨ho,λw hw=>CO ru fy r fs w (by simpa using hw),?_⟩
 refine⟨.int _,H,I.tok _,⟨_,O⟩,?_⟩
 rw[show its.toArray.toList=its from rfl,xT r fs]
 exact q
theorem Ez(K:W.Frag)(h:X.K=K):L4 X "list.count" (Gh K):=by subst h;exact Hz
def WB(K:W.Frag):R2:=λx y H Q=>∃a b xs,x=.ref a/\y=.ref b/\aN K H a xs/\aN K H b []/\Q (.bl xs.isEmpty) H
theorem ua(K:W.Frag)(hK:X.K=K)(hu:X.A.units<cLine):oY X (compareOp .Eq) (WB K):=by
 subst hK
 intro pins s σ H x y v u Q I rx ry h
 obtain⟨a,b,xs,rfl,rfl,ha,hb,q⟩:=h
 cases rx
 cases ry
 obtain⟨its,r1,p1,_⟩:=I.list ha
 obtain⟨its2,r2,p2,_⟩:=I.list hb
 cases r2
 show wpAny _ _ (richCompare .Eq (.ref a) (.ref b)) _ _ _
 cases xs with
 |nil =>
  cases r1
  refine SeqAt.RcAt.lists (e:=λ_=>true) p1.isList p2.isList rfl hu (λj h1 _=>absurd h1 (by simp)) _ _ _ _ ⟨.bl true,H,I,?_,q⟩
  simp[RelV]
 |cons x xs =>
  cases r1 with
  |cons r rr =>
   exact SeqAt.RcAt.lists_lengths p1.isList p2.isList (by simp) hu _ _ _ _ ⟨.bl false,H,I,rfl,q⟩
end
def HA(i:Int)(n:Nat):List V:=(List.range n).map λ(k:Nat)=>V.int (i+k)
theorem HB{a:Int}{n:Nat}{acc:Array Value}(h:ItemsOf (λi v=>∃t,v=.int (a+i*1) t) acc n):Vals (HA a n) acc.toList:=by
 have key:∀(m:Nat),m<=n->Vals ((List.range m).map λ(k:Nat)=>V.int (a+k)) (acc.toList.take m):=by
  intro m
  induction m with
  |zero=>intro _;exact .nil
  |succ m ih =>
   intro hm
   have hsz:m<acc.size:=by rw[h.1];omega
   have hx:acc.toList[m]?=some acc[m]:=by simp[hsz]
   obtain⟨t,et⟩:=h.2 m acc[m] (by simp[hsz])
   rw[List.range_succ,abw,List.take_succ,hx]
   refine(ih 'b').append (.cons ⟨t,?_⟩ .nil)
   rw[et,Int.mul_one]
 have:=key n (abh _)
 rw[aby (by rw[abA,h.1];exact abh _)]at this
 exact this
section
variable{X:Cx}
end
section
variable{prog:Program}{w:World}{A:Around}{E:Value->Shared->Prop}{s:Shared}
theorem Mm{z TI TO i1 i2 l:Addr}{n1 n2 k:Nat}{P1 P2:Nat->Value->Prop}{S1 S2:Nat->Heap->Prop}{a b:Value}{Q:Value->Shared->Prop}(D:ZipApart z TI TO i1 i2 l l)(G1:Draws prog w A i1 [i1] n1 P1 S1)(G2:Draws prog w A i2 [i2,l] n2 P2 S2)(hz:IsZip s.heap z TI TO .none)(hTI:IsPair s.heap TI (.ref i1) (.ref i2))(hTO:IsPair s.heap TO a b)(g1:S1 k s.heap)(g2:S2 k s.heap)(k1:k<n1)(k2:k<n2)(hQ:∀h' tk x y,P1 k x->P2 k y->IsZip h' z TI TO (rawInt s.heap.objs.size)->IsPair h' TO x y->S1 (k+1) h'->S2 (k+1) h'->IsPair h' s.heap.objs.size x y->(∀c o,c≠z->c≠TO->c≠i1->c≠i2->s.heap.get? c=some o->h'.get? c=some o)->Q (.ref s.heap.objs.size) {s with heap:=h',toks:=tk}):wpAny (model prog w) A (Builtin.«zip.__next__» ⟨[.ref z],[]⟩) (λfin s'=>∃v,fin=.done (.ret v)/\Q v s') E s:=by
 have e1:∀{i:Nat}{h h':Heap}{c:Addr},Heap.SameBut c h h'->i1≠c->S1 i h->S1 i h':=λhs hn g=>G1.frame _ _ _ g λb hb o e=>by
  rw[abf.mp hb]at e⊢;exact hs.extBut _ _ hn e
 have e2:∀{i:Nat}{h h':Heap}{c:Addr},Heap.SameBut c h h'->i2≠c->l≠c->S2 i h->S2 i h':=λhs hn hl g=>G2.frame _ _ _ g λb hb o e=>by
  rcases abt.mp hb with q|q
  ·rw[q]at e⊢;exact hs.extBut _ _ hn e
  ·rw[abf.mp q]at e⊢;exact hs.extBut _ _ hl e
 show wpAny _ _ (field (.ref z) 2 >>= _) _ _ _
 refine abe (ace hz rfl (x:=.bool false) rfl ?_)
 show wpAny _ _ (field (.ref z) 3 >>= _) _ _ _
 refine abe (ace hz rfl (x:=.ref TI) rfl (abe (acA hTI rfl ?_)))
 show wpAny _ _ (Builtin.SmallTypes.ownedTupleIsFree (.ref z) >>= _) _ _ _
 refine abe ?_
 unfold Builtin.SmallTypes.ownedTupleIsFree
 refine abe (ace hz rfl (x:=.none) rfl (abz ?_))
 simp only[acz]
 refine abe (wpAny_rule (abe (ace hz rfl (x:=.ref TO) rfl (abe (acD hz (by simp) λA1 z1 q1=>?_)))))
 replace z1:IsZip A1 z TI TO .ellipsis:=z1
 refine abe ?_
 simp only[List.zipIdx_cons,List.zipIdx_nil,List.forIn_cons,List.forIn_nil]
 refine abe (abe (wpAny_onRaise ?_))
 show wpAny _ _ (Builtin.SmallTypes.nextOf (.ref i1) >>= _) _ _ _
 refine abe (G1.item k _ _ _ k1 (e1 q1 D.i1z g1) λx A2 tk px g1' q2=>abz ?_)
 have o2:IsPair A2 TO a b:=q2.extBut _ _ D.TOi1 (q1.extBut _ _ D.TOz hTO)
 refine abe (acA o2 rfl (abe (wpAny_updateSeq_pair o2 λA3 o3 q3=>?_)))
 replace o3:IsPair A3 TO x b:=o3
 refine abe (wpAny_letGo (abz (abe (abe (wpAny_onRaise ?_)))))
 show wpAny _ _ (Builtin.SmallTypes.nextOf (.ref i2) >>= _) _ _ _
 refine abe (G2.item k _ _ _ k2 (e2 q3 D.TOi2.symm D.l2TO (e2 q2 D.i12.symm D.l2i1 (e2 q1 D.i2z D.l2z g2))) λy A4 tk2 py g2' q4=>abz ?_)
 have o4:IsPair A4 TO x b:=q4.extBut _ _ D.TOi2 o3
 refine abe (acA o4 rfl (abe (wpAny_updateSeq_pair o4 λA5 o5 q5=>?_)))
 replace o5:IsPair A5 TO x y:=o5
 refine abe (wpAny_letGo (abz (abz (abe (acA o5 rfl (abe (wpAny_newTuple ?_)))))))
 have sz:A5.objs.size=s.heap.objs.size:=by rw[q5.1,q4.1,q3.1,q2.1,q1.1]
 have z5:IsZip A5 z TI TO .ellipsis:=q5.extBut _ _ D.TOz.symm (q4.extBut _ _ D.i2z.symm (q3.extBut _ _ D.TOz.symm (q2.extBut _ _ D.i1z.symm z1)))
 have w1:S1 (k+1) A5:=e1 q5 D.TOi1.symm (e1 q4 D.i12 (e1 q3 D.TOi1.symm g1'))
 have w2:S2 (k+1) A5:=e2 q5 D.TOi2.symm D.l2TO g2'
 have kp:∀c o,c≠z->c≠TO->c≠i1->c≠i2->s.heap.get? c=some o->A5.get? c=some o:=λc o c1 c2 c3 c4 e=>q5.extBut _ _ c2 (q4.extBut _ _ c4 (q3.extBut _ _ c2 (q2.extBut _ _ c3 (q1.extBut _ _ c1 e))))
 have lz:z<A5.objs.size:=abu z5
 have z6:IsZip (A5.push {cls:=.type "tuple",data:=.seq #[x,y]}) z TI TO .ellipsis:=abm _ z5
 show wpAny _ _ (Builtin.SmallTypes.ownedTupleHandOut (.ref z) (.ref A5.objs.size) >>= _) _ _ _
 refine abe ?_
 unfold Builtin.SmallTypes.ownedTupleHandOut
 refine abe (acD z6 (by simp) λA7 z7 q7=>?_)
 replace z7:IsZip A7 z TI TO (rawInt A5.objs.size):=z7
 refine acD z7 (by simp) λA8 z8 q8=>?_
 replace z8:IsZip A8 z TI TO (rawInt A5.objs.size):=z8
 have up:∀c o,c≠z->A5.get? c=some o->A8.get? c=some o:=λc o c1 e=>q8.extBut _ _ c1 (q7.extBut _ _ c1 (abm _ e))
 have t8:IsPair A8 A5.objs.size x y:=q8.extBut _ _ (acL lz) (q7.extBut _ _ (acL lz) (abC _ rfl))
 have v1:S1 (k+1) A8:=G1.frame _ _ _ w1 λb hb o e=>by
  rw[abf.mp hb]at e⊢;exact up _ o D.i1z e
 have v2:S2 (k+1) A8:=G2.frame _ _ _ w2 λb hb o e=>by
  rcases abt.mp hb with q|q
  ·rw[q]at e⊢;exact up _ o D.i2z e
  ·rw[abf.mp q]at e⊢;exact up _ o D.l2z e
 rw[sz]at z8 t8
 refine abz ⟨_,rfl,?_⟩
 show Q (.ref A5.objs.size) _
 rw[sz]
 exact hQ A8 _ x y px py z8 (up _ _ D.TOz o5) v1 v2 t8 λc o c1 c2 c3 c4 e=>up c o c1 (kp c o c1 c2 c3 c4 e)
theorem OV{z TI TO i1 i2 l:Addr}{n1 n2 k:Nat}{P1 P2:Nat->Value->Prop}{S1 S2:Nat->Heap->Prop}{a b:Value}{Q:Fin->Shared->Prop}(D:ZipApart z TI TO i1 i2 l l)(G1:Draws prog w A i1 [i1] n1 P1 S1)(G2:Draws prog w A i2 [i2,l] n2 P2 S2)(hz:IsZip s.heap z TI TO .none)(hTI:IsPair s.heap TI (.ref i1) (.ref i2))(hTO:IsPair s.heap TO a b)(g1:S1 k s.heap)(g2:S2 k s.heap)(hk:k=n1\/(k<n1/\k=n2))(hE:∀h' tk e,(∀c o,c≠z->c≠TO->c≠i1->c≠i2->s.heap.get? c=some o->h'.get? c=some o)->(∃o,h'.get? e=some o/\o.cls=.type "StopIteration")->E (.ref e) {s with heap:=h',toks:=tk}):wpAny (model prog w) A (Builtin.«zip.__next__» ⟨[.ref z],[]⟩) Q E s:=by
 have e1:∀{i:Nat}{h h':Heap}{c:Addr},Heap.SameBut c h h'->i1≠c->S1 i h->S1 i h':=λhs hn g=>G1.frame _ _ _ g λb hb o e=>by
  rw[abf.mp hb]at e⊢;exact hs.extBut _ _ hn e
 have e2:∀{i:Nat}{h h':Heap}{c:Addr},Heap.SameBut c h h'->i2≠c->l≠c->S2 i h->S2 i h':=λhs hn hl g=>G2.frame _ _ _ g λb hb o e=>by
  rcases abt.mp hb with q|q
  ·rw[q]at e⊢;exact hs.extBut _ _ hn e
  ·rw[abf.mp q]at e⊢;exact hs.extBut _ _ hl e
 show wpAny _ _ (field (.ref z) 2 >>= _) _ _ _
 refine abe (ace hz rfl (x:=.bool false) rfl ?_)
 show wpAny _ _ (field (.ref z) 3 >>= _) _ _ _
 refine abe (ace hz rfl (x:=.ref TI) rfl (abe (acA hTI rfl ?_)))
 show wpAny _ _ (Builtin.SmallTypes.ownedTupleIsFree (.ref z) >>= _) _ _ _
 refine abe ?_
 unfold Builtin.SmallTypes.ownedTupleIsFree
 refine abe (ace hz rfl (x:=.none) rfl (abz ?_))
 simp only[acz]
 refine abe (wpAny_rule (abe (ace hz rfl (x:=.ref TO) rfl (abe (acD hz (by simp) λA1 z1 q1=>?_)))))
 replace z1:IsZip A1 z TI TO .ellipsis:=z1
 refine abe ?_
 simp only[List.zipIdx_cons,List.zipIdx_nil,List.forIn_cons,List.forIn_nil]
 refine abe (abe (wpAny_onRaise ?_))
 show wpAny _ _ (Builtin.SmallTypes.nextOf (.ref i1) >>= _) _ _ _
 rcases hk with rfl|⟨k1,rfl⟩
 ·refine abe (G1.done _ _ _ (e1 q1 D.i1z g1) λA2 e q2 he=>?_)
  obtain⟨oe,OW,hce⟩:=he
  have z2:IsZip A2 z TI TO .ellipsis:=q2 _ _ D.i1z.symm z1
  have ez:e≠z:=λq=>by rw[q,z2]at OW;cases OW;exact absurd (show Value.type "zip"=Value.type "StopIteration" from hce) 'c'
  exact acD z2 (by simp) λA3 _ q3=>hE A3 _ e (λc o c1 _ c3 _ p=>q3.extBut _ _ c1 (q2 _ _ c3 (q1.extBut _ _ c1 p))) ⟨oe,q3.extBut _ _ ez OW,hce⟩
 ·refine abe (G1.item k _ _ _ k1 (e1 q1 D.i1z g1) λx A2 tk px g1' q2=>abz ?_)
  have o2:IsPair A2 TO a b:=q2.extBut _ _ D.TOi1 (q1.extBut _ _ D.TOz hTO)
  refine abe (acA o2 rfl (abe (wpAny_updateSeq_pair o2 λA3 o3 q3=>?_)))
  refine abe (wpAny_letGo (abz (abe (abe (wpAny_onRaise ?_)))))
  show wpAny _ _ (Builtin.SmallTypes.nextOf (.ref i2) >>= _) _ _ _
  refine abe (G2.done _ _ _ (e2 q3 D.TOi2.symm D.l2TO (e2 q2 D.i12.symm D.l2i1 (e2 q1 D.i2z D.l2z g2))) λA4 e q4 he=>?_)
  obtain⟨oe,OW,hce⟩:=he
  have z4:IsZip A4 z TI TO .ellipsis:=q4 _ _ D.i2z.symm (q3.extBut _ _ D.TOz.symm (q2.extBut _ _ D.i1z.symm z1))
  have ez:e≠z:=λq=>by rw[q,z4]at OW;cases OW;exact absurd (show Value.type "zip"=Value.type "StopIteration" from hce) 'c'
  exact acD z4 (by simp) λA5 _ q5=>hE A5 _ e (λc o c1 c2 c3 c4 p=>q5.extBut _ _ c1 (q4 _ _ c4 (q3.extBut _ _ c2 (q2.extBut _ _ c3 (q1.extBut _ _ c1 p))))) ⟨oe,q5.extBut _ _ ez OW,hce⟩
def wu(h:Heap)(it:Addr)(x:Str)(t:Tok)(i:Nat):Prop:=h.IsStrIter it "str_ascii_iterator" x t i\/h.IsStrIter it "str_iterator" x t i
theorem C0(hh:A.handled=none)(it:Addr)(x:Str)(t:Tok):Draws prog w A it [it] x.cps.size (λi v=>∃c u,x.cps[i]?=some c/\v=.str ⟨#[c]⟩ u) (λi h=>wu h it x t i) where
 live:=λi h st=>by
  rcases st with st|st
  ·exact(Draws.strAscii (prog:=prog) (w:=w) hh it x t).live i h st
  ·exact(Draws.strWide (prog:=prog) (w:=w) hh it x t).live i h st
 frame:=λi h h' st hk=>by
  rcases st with st|st
  ·exact .inl ((Draws.strAscii (prog:=prog) (w:=w) hh it x t).frame i h h' st hk)
  ·exact .inr ((Draws.strWide (prog:=prog) (w:=w) hh it x t).frame i h h' st hk)
 item:=λi s Q E hi st hQ=>by
  rcases st with st|st
  ·exact(Draws.strAscii (prog:=prog) (w:=w) hh it x t).item i s Q E hi st λv h' tk p q r=>hQ v h' tk p (.inl q) r
  ·exact(Draws.strWide (prog:=prog) (w:=w) hh it x t).item i s Q E hi st λv h' tk p q r=>hQ v h' tk p (.inr q) r
 done:=λs Q E st hE=>by
  rcases st with st|st
  ·exact(Draws.strAscii (prog:=prog) (w:=w) hh it x t).done s Q E st hE
  ·exact(Draws.strWide (prog:=prog) (w:=w) hh it x t).done s Q E st hE
theorem JY{h h':Heap}{it:Addr}{x:Str}{t:Tok}{i:Nat}(q:wu h it x t i)(e:∀o,h.get? it=some o->h'.get? it=some o):wu h' it x t i:=by
 rcases q with ⟨o,ho,r⟩|⟨o,ho,r⟩
 ·exact .inl ⟨o,e _ ho,r⟩
 ·exact .inr ⟨o,e _ ho,r⟩
theorem EA{h:Heap}{it:Addr}{x:Str}{t:Tok}{i:Nat}(q:wu h it x t i):∃o,h.get? it=some o/\∃vs,o.data=.fields vs:=by
 rcases q with ⟨o,ho,_,r⟩|⟨o,ho,_,r⟩
 ·exact⟨o,ho,_,r⟩
 ·exact⟨o,ho,_,r⟩
theorem C7(hh:A.handled=none)(z TI TO i1 i2 l:Addr)(D:ZipApart z TI TO i1 i2 l l)(x:Str)(t:Tok)(ys:Array Value):WalksT prog w A z [z,TI,TO,i1,i2,l] [z,TO,i1,i2] (min x.cps.size ys.size)
   (λi vals=>∃c u y,x.cps[i]?=some c/\ys[i]?=some y/\vals = #[.str ⟨#[c]⟩ u,y])
   (λi h=>IsZip h z TI TO .none/\IsPair h TI (.ref i1) (.ref i2)/\(∃a b,IsPair h TO a b)/\wu h i1 x t i/\h.IsListIter i2 l i/\h.IsList l ys)
   (λi T h=>IsZip h z TI TO (rawInt T)/\IsPair h TI (.ref i1) (.ref i2)/\(∃a b,IsPair h TO a b)/\wu h i1 x t (i+1)/\h.IsListIter i2 l (i+1)/\h.IsList l ys/\T≠z/\T≠TO/\T≠i1/\T≠i2) where
 sub:=λc hc=>by
  simp only[abt,ab8,or_false]at hc⊢
  rcases hc with q|q|q|q<;>simp[q]
 frame:=λi h h' st hk=>by
  obtain⟨p1,p2,⟨a,b,p3⟩,p4,p5,p6⟩:=st
  exact⟨hk z (by simp) _ p1,hk TI (by simp) _ p2,⟨a,b,hk TO (by simp) _ p3⟩,JY p4 λo e=>hk i1 (by simp) o e,p5.at λo e=>hk i2 (by simp) o e,p6.at λo e=>hk l (by simp) o e⟩
 item:=λi s Q E hi st hQ=>by
  obtain⟨p1,p2,⟨a,b,p3⟩,p4,p5,p6⟩:=st
  have hT:s.TypeIs (.ref z) "zip":=⟨_,p1,rfl⟩
  unfold pyNext
  refine abe (wpAny_attempt (wpAny_callSpecial?_slot (name:=("__next__":Str)) hT F.slot_zip_next (wpAny_call_entry F.slot_zip_next hT F.entry_zip_next ?_ (F.args_zip_next_1 _))))
  refine Mm (S1:=λi h=>wu h i1 x t i) (S2:=λi h=>h.IsListIter i2 l i/\h.IsList l ys) D (C0 (A:=A.in1) hh i1 x t) (Draws.list (A:=A.in1) hh i2 l D.l2i2 ys) p1 p2 p3 p4 ⟨p5,p6⟩ (abD hi (Nat.min_le_left ..)) (abD hi (Nat.min_le_right ..)) λh' tk u y pu py r1 r2 r3 r4 r5 kp=>?_
  obtain⟨c,tu,hc,rfl⟩:=pu
  have lt:∀{c o},s.heap.get? c=some o->s.heap.objs.size≠c:=λe=>acL (abu e)
  refine abz (hQ s.heap.objs.size #[.str ⟨#[c]⟩ tu,y] h' tk ⟨c,tu,y,hc,py,rfl⟩ (abh _) ⟨_,r5,rfl,_,rfl⟩ ⟨r1,kp _ _ D.TIz D.TITO D.TIi1 D.TIi2 p2,⟨_,_,r2⟩,r3,r4.1,r4.2,lt p1,lt p3,?_,?_⟩ λc o hc e=>kp c o (λq=>hc (by simp[q])) (λq=>hc (by simp[q])) (λq=>hc (by simp[q])) (λq=>hc (by simp[q])) e)
  ·obtain⟨o,ho,_⟩:=EA p4;exact lt ho
  ·obtain⟨o,ho,_⟩:=p5;exact lt ho
 go:=λelts k pos i T s Q E hm hQ=>by
  obtain⟨p1,p2,⟨a,b,p3⟩,p4,p5,p6,_⟩:=hm
  refine wpAny_letOwnedTupleGo_zip p1 λh' z' q=>hQ h' ⟨z',q.extBut _ _ D.TIz p2,⟨a,b,q.extBut _ _ D.TOz p3⟩,JY p4 λo e=>q.extBut _ _ D.i1z e,p5.extBut q.extBut D.i2z,p6.extBut q.extBut D.l2z⟩ λc o hc e=>q.extBut _ _ (λy=>hc (by simp[y])) e
 apart:=λi T h hm hT=>by
  obtain⟨_,_,_,_,_,_,t1,t2,t3,t4⟩:=hm
  simp only[abt,ab8,or_false]at hT
  rcases hT with q|q|q|q
  ·exact t1 q
  ·exact t2 q
  ·exact t3 q
  ·exact t4 q
 done:=λs Q E st hQ=>by
  obtain⟨p1,p2,⟨a,b,p3⟩,p4,p5,p6⟩:=st
  have hT:s.TypeIs (.ref z) "zip":=⟨_,p1,rfl⟩
  unfold pyNext
  refine abe (wpAny_attempt (wpAny_callSpecial?_slot (name:=("__next__":Str)) hT F.slot_zip_next (wpAny_call_entry F.slot_zip_next hT F.entry_zip_next ?_ (F.args_zip_next_1 _))))
  refine OV (S1:=λi h=>wu h i1 x t i) (S2:=λi h=>h.IsListIter i2 l i/\h.IsList l ys) D (C0 (A:=A.in1) hh i1 x t) (Draws.list (A:=A.in1) hh i2 l D.l2i2 ys) p1 p2 p3 p4 ⟨p5,p6⟩ ?_ λh' tk e kp he=>?_
  ·by_cases q:x.cps.size<=ys.size
   ·exact .inl (Nat.min_eq_left q)
   ·exact .inr ⟨by omega,Nat.min_eq_right 'b'⟩
  ·obtain⟨o,ho,hc⟩:=he
   refine abe (wpAny_isInstance (T:="StopIteration") (b:=true) ⟨o,ho,hc⟩ isSubtype_stop (abz (hQ _ _ λc o hc e=>kp c o (λq=>hc (by simp[q])) (λq=>hc (by simp[q])) (λq=>hc (by simp[q])) (λq=>hc (by simp[q])) e)))
 self:=λi s Q E st hQ=>wpAny_pyIter_zip st.1 hQ
end
def HC(K:W.Frag)(z:Str)(b:Addr):It :=
 ⟨λi H=>∃ys c y,aN K H b ys/\z.cps[i]?=some c/\ys[i]?=some y,λi H v H'=>∃t c y,H t=none/\v=.ref t/\H'=upd H t (.tup [.str (sg c),y])/\z.cps[i]?=some c/\(∀ys,aN K H b ys->ys[i]?=some y),λi H=>∃ys,aN K H b ys/\min z.cps.size ys.length=i⟩
theorem HD{P:Program}{w:World}{K:W.Frag}{elts:List Expr}{k:Nat}{pos:Pos}{z TI TO i1 i2 l:Addr}{x:Str}{t:Tok}(D:ZipApart z TI TO i1 i2 l l):Turn P w K (.Tuple elts k pos) (HC K x l) [z,TI,TO,i1,i2] z (λi h=>IsZip h z TI TO .none/\IsPair h TI (.ref i1) (.ref i2)/\(∃a b,IsPair h TO a b)/\wu h i1 x t i/\h.IsListIter i2 l i) where
 mem:=by simp
 obj:=λi h st b hb=>by
  obtain⟨p1,p2,⟨a,c,p3⟩,p4,⟨o2,e2,c2,d2⟩⟩:=st
  simp only[abt,ab8,or_false]at hb
  rcases hb with rfl|rfl|rfl|rfl|rfl
  ·exact⟨_,p1,λv q=>by cases q⟩
  ·exact⟨_,p2,λv q=>by cases q⟩
  ·exact⟨_,p3,λv q=>by cases q⟩
  ·obtain⟨o,ho,vs,hv⟩:=EA p4;exact⟨o,ho,λv q=>by rw[hv]at q;cases q⟩
  ·exact⟨_,e2,λv q=>by rw[d2]at q;cases q⟩
 keep:=λi h h' st k=>by
  obtain⟨p1,p2,⟨a,c,p3⟩,p4,p5⟩:=st
  exact⟨k z (by simp) _ p1,k TI (by simp) _ p2,⟨a,c,k TO (by simp) _ p3⟩,JY p4 λo e=>k i1 (by simp) o e,p5.at λo e=>k i2 (by simp) o e⟩
 item:=by
  intro X hP hw hK hc i pins s σ H E I hf st hg
  subst hP hw hK
  obtain⟨ys,c,y,hy,ec,ey⟩:=hg
  obtain⟨its,rv,p,hz⟩:=I.list hy
  obtain⟨u,hu,ru⟩:=rv.get ey
  obtain⟨p1,p2,p3,p4,p5⟩:=id st
  have W:=C7 (prog:=X.prog) (w:=X.w) (A:=X.A) (I.ok.hd hc) z TI TO i1 i2 l D x t its.toArray
  have hsub:∀b∈[z,TO,i1,i2],b∈[z,TI,TO,i1,i2]:=by
   intro b hb
   simp only[abt,ab8,or_false]at hb⊢
   rcases hb with q|q|q|q<;>simp[q]
  refine Av (J:=HC X.K x l) (tn:=λi h=>IsZip h z TI TO .none/\IsPair h TI (.ref i1) (.ref i2)/\(∃a b,IsPair h TO a b)/\wu h i1 x t i/\h.IsListIter i2 l i) W I hf hsub ?_ ?_ ?_ ?_ ?_
  ·intro b hb
   obtain⟨a',b',p3⟩:=p3
   obtain⟨o1,e1,_⟩:=EA p4
   obtain⟨o2,e2,_⟩:=p5
   simp only[abt,ab8,or_false]at hb
   rcases hb with rfl|rfl|rfl|rfl|rfl
   ·exact abu p1
   ·exact abu p2
   ·exact abu p3
   ·exact abu e1
   ·exact abu e2
  ·have h1:=(ab9.mp ec).1
   have h2:=(abd.mp hu).1
   simp only[abg]
   omega
  ·exact⟨p1,p2,p3,p4,p5,p.isList⟩
  ·rintro vals ⟨c',tu,v2,q1,q2,rfl⟩
   rw[ec]at q1;cases q1
   have q2:its[i]?=some v2:=by simpa using q2
   rw[hu]at q2;cases q2
   exact⟨[.str (sg c),y],(by show 2<=sizeLine;decide),.cons ⟨tu,O⟩ (.cons ru .nil),λT hT=>⟨T,c,y,hT,O,O,ec,λzs hz=>by rw[I.qP hz hy];exact ey⟩⟩
  ·exact λh q=>⟨q.1,q.2.1,q.2.2.1,q.2.2.2.1,q.2.2.2.2.1⟩
 done:=by
  intro X hP hw hK hc i pins s σ H E I hf st hg
  subst hP hw hK
  obtain⟨ys,hy,hmin⟩:=hg
  obtain⟨its,rv,p,hz⟩:=I.list hy
  obtain⟨p1,p2,p3,p4,p5⟩:=id st
  have e2:its.toArray.size=ys.length:=by rw[rv.length];exact abg ..
  have e:i=min x.cps.size its.toArray.size:=by rw[e2,hmin]
  subst e
  have W:=C7 (prog:=X.prog) (w:=X.w) (A:=X.A) (I.ok.hd hc) z TI TO i1 i2 l D x t its.toArray
  have hsub:∀b∈[z,TO,i1,i2],b∈[z,TI,TO,i1,i2]:=by
   intro b hb
   simp only[abt,ab8,or_false]at hb⊢
   rcases hb with q|q|q|q<;>simp[q]
  exact Aw W I hf hsub ⟨p1,p2,p3,p4,p5,p.isList⟩
 self:=λ_ _ _ _ _ st h=>wpAny_pyIter_zip st.1 h
def fY(x:Str)(t:Tok):Obj:={cls:=.type (if x.cps.all (· < 128)=true then "str_ascii_iterator" else "str_iterator"),data:=.fields #[.str x t,.int 0 0]}
theorem OX{h:Heap}{it:Addr}{x:Str}{t:Tok}(e:h.get? it=some (fY x t)):wu h it x t 0:=by
 unfold fY at e
 cases ha:x.cps.all (· < 128)
 ·rw[ha,abb 'c']at e;exact .inr ⟨_,e,rfl,rfl⟩
 ·rw[ha,abj rfl]at e;exact .inl ⟨_,e,rfl,rfl⟩
section
variable{prog:Program}{w:World}{A:Around}{E:Value->Shared->Prop}{s:Shared}
theorem Mp{x:Str}{t:Tok}{Q:Value->Shared->Prop}(hQ:Q (.ref s.heap.objs.size) {s with heap:=s.heap.push (fY x t)}):wpAny (model prog w) A (pyIter (.str x t)) Q E s:=by
 unfold fY at hQ
 cases ha:x.cps.all (· < 128)
 ·rw[ha,abb 'c']at hQ;exact wpAny_pyIter_wide ha hQ
 ·rw[ha,abj rfl]at hQ;exact wpAny_pyIter_ascii ha hQ
end
abbrev Vm(h:Heap)(o:Obj):Heap:=h.push o
abbrev zs2(h:Heap)(o:Obj)(l:Addr):Heap:=(Vm h o).push {cls:=.type "list_iterator",data:=.fields #[.ref l,.int 0 0]}
abbrev Vn(h:Heap)(o:Obj)(l:Addr):Heap:=(zs2 h o l).push {cls:=.type "tuple",data:=.seq #[.ref h.objs.size,.ref (Vm h o).objs.size]}
abbrev Vo(h:Heap)(o:Obj)(l:Addr):Heap:=(Vn h o l).push {cls:=.type "tuple",data:=.seq #[.none,.none]}
abbrev QS(h:Heap)(o:Obj)(l:Addr):Heap:=(Vo h o l).push {cls:=.type "zip",data:=.fields #[.none,.bool false,.bool false,.ref (zs2 h o l).objs.size,.ref (Vn h o l).objs.size]}
theorem JZ(x:Str)(t:Tok)(l:Addr)(ys:Array Value):Meets (Builtin.«zip.__new__» ⟨[.type "zip",.str x t,.ref l],[]⟩) (λ_ R s=>s.heap.IsList l ys/\R (.ok (.ret (.ref (Vo s.heap (fY x t) l).objs.size))) {s with heap:=QS s.heap (fY x t) l}) :=
 .of_wp λprog w A R s h=>by
  obtain⟨hp,g,d,tk,os⟩:=s
  obtain⟨hl,h⟩:=h
  have hsub:=sub_zip
  have hL:Heap.IsList (Shared.heap ⟨hp.push (fY x t),g,d,tk,os⟩) l ys:=Heap.IsList.push hl _
  wp_walk using Mp,wpAny_pyIter_list hL
  exact⟨_,O,h⟩
section
variable{prog:Program}{w:World}{A:Around}{E:Value->Shared->Prop}{s:Shared}
theorem HE{x:Str}{t:Tok}{l:Addr}{ys:Array Value}{Q:Value->Shared->Prop}(hl:s.heap.IsList l ys)(h:∀h',IsZip h' (s.heap.objs.size+4) (s.heap.objs.size+2) (s.heap.objs.size+3) .none->IsPair h' (s.heap.objs.size+2) (.ref s.heap.objs.size) (.ref (s.heap.objs.size+1))->IsPair h' (s.heap.objs.size+3) .none .none->wu h' s.heap.objs.size x t 0->h'.IsListIter (s.heap.objs.size+1) l 0->(∀c o,s.heap.get? c=some o->h'.get? c=some o)->Q (.ref (s.heap.objs.size+4)) {s with heap:=h'}):wpAny (model prog w) A (call (.type "zip") [.str x t,.ref l]) Q E s:=by
 refine callType_new F.called_zip 'c' (F.typeCall_zip_2 _ _) (F.newCall_zip_2 _ _) (λobj=>F.args_object_init_3 obj _ _) F.entry_zip_new (JZ x t l ys) ⟨hl,?_⟩
 have n1:(Vm s.heap (fY x t)).objs.size=s.heap.objs.size+1:=ab5 ..
 have n2:(zs2 s.heap (fY x t) l).objs.size=s.heap.objs.size+2:=by rw[ab5,n1]
 have n3:(Vn s.heap (fY x t) l).objs.size=s.heap.objs.size+3:=by rw[ab5,n2]
 have n4:(Vo s.heap (fY x t) l).objs.size=s.heap.objs.size+4:=by rw[ab5,n3]
 have up:∀{h:Heap}{c:Addr}{u o:Obj},h.get? c=some o->(h.push u).get? c=some o:=λe=>abm _ e
 have r5:(QS s.heap (fY x t) l).get? (Vo s.heap (fY x t) l).objs.size=some _:=abC _ rfl
 have r4:(QS s.heap (fY x t) l).get? (Vn s.heap (fY x t) l).objs.size=some _:=up (abC _ rfl)
 have r3:(QS s.heap (fY x t) l).get? (zs2 s.heap (fY x t) l).objs.size=some _:=up (up (abC _ rfl))
 have r2:(QS s.heap (fY x t) l).get? (Vm s.heap (fY x t)).objs.size=some _:=up (up (up (abC _ rfl)))
 have r1:(QS s.heap (fY x t) l).get? s.heap.objs.size=some (fY x t):=up (up (up (up (abC _ rfl))))
 show _/\_
 rw[n2,n3,n4]at r5
 rw[n1,n2]at r3
 rw[n3]at r4
 rw[n1]at r2
 rw[n4]
 exact⟨⟨_,r5,O⟩,h _ r5 r3 r4 (OX r1) ⟨_,r2,O,O⟩ λc o q=>up (up (up (up (up q))))⟩
end
def R1(K:W.Frag)(ta:TA):TI:=λσ H R=>ta σ H λvs H1=>∃z b,vs=[.str z,.ref b]/\(∃ys,aN K H1 b ys)/\R (HC K z b) H1
theorem J3{X:Cx}{elts:List Expr}{k:Nat}{tpos:Pos}{a b:Expr}{ta:TA}{p pos:Pos}(K:W.Frag)(hK:X.K=K)(hg:Gl X "zip")(hm:X.mg "zip"=none)(ha:PA X [a,b] ta)(hs:starEach [a,b] X.env=[(false,eval a X.env),(false,eval b X.env)]:=by rfl)(hs2:starEach [b] X.env=[(false,eval b X.env)]:=by rfl):PI X (.Tuple elts k tpos) (.Call (.Name "zip" p) [a,b] [] pos) (R1 K ta):=by
 subst hK
 intro pins s σ H R I h
 refine Call_ (ko I hg hm (u:=.type "zip") (by decide +kernel) (ab1 (dJ (ha pos pins s σ H _ I h) λus s1 ⟨vs,H1,I1,r1,q1⟩=>?_) (by rw[hs,hs2]) (by rw[hs2];rfl)))
 obtain⟨z,l,e,⟨ys,hy⟩,q⟩:=q1
 subst e
 cases r1 with
 |cons r rr =>
  cases rr with
  |cons r' rr =>
   cases rr
   obtain⟨t,rfl⟩:=r
   cases r'
   obtain⟨its,rv,pl,hz⟩:=I1.list hy
   have hlt:l<s1.heap.objs.size:=by obtain⟨o,ho,_⟩:=pl.isList;exact abu ho
   refine HE pl.isList λh' hz' hTI hTO hi1 hi2 hk=>?_
   refine wpAny_pyIter_zip hz' ?_
   have I2:Inv X pins σ H1 {s1 with heap:=h'}:=I1.kept (t':=s1.toks) λb o e=>hk b o e
   refine⟨s1.heap.objs.size+4,_,_,_,H1,rfl,I2,HD (x:=z) (t:=t) (JX s1.heap.objs.size l l hlt hlt),⟨hz',hTI,⟨_,_,hTO⟩,hi1,hi2⟩,λb hb=>?_,q⟩
   have hb':s1.heap.objs.size<=b:=by
    simp only[abt,ab8,or_false]at hb
    rcases hb with rfl|rfl|rfl|rfl|rfl
    ·exact aci _ _
    ·exact aci _ _
    ·exact aci _ _
    ·exact abh _
    ·exact aci _ _
   exact I1.wm hb' (I1.hok.fresh hb')
theorem J4{K:W.Frag}{z:Str}{b:Addr}{ys:List V}{g:TG}{tb:TS}{D:Ends}{σ:St}{H:Hp}(Pv:Nat->St->Hp->Prop)(h0:Pv 0 σ H)(hl:∀i σ H,i<=min z.cps.size ys.length->Pv i σ H->aN K H b ys)(hs:∀i c y t σ H,z.cps[i]?=some c->ys[i]?=some y->H t=none->Pv i σ H->g (.ref t) σ (upd H t (.tup [.str (sg c),y])) λσ2 H2=>tb {D with nx:=Pv (i+1),ct:=Pv (i+1),bk:=D.nx} σ2 H2)(hd:∀σ H,Pv (min z.cps.size ys.length) σ H->D.nx σ H):∃W:Nat->Nat->St->Hp->Prop,(∃m,W 0 m σ H)/\∀i m σ H,W i m σ H->((HC K z b).stop i H/\D.nx σ H)\/((HC K z b).go i H/\∃N:St->Hp->Prop,(∀σ' H',N σ' H'->∃m',m'<m/\W (i+1) m' σ' H')/\∀x H',(HC K z b).LA i H x H'->g x σ H' λσ2 H2=>tb {D with nx:=N,ct:=N,bk:=D.nx} σ2 H2):=by
 refine⟨λi m σ H=>m=min z.cps.size ys.length-i/\i<=min z.cps.size ys.length/\Pv i σ H,⟨_,O,abW _,h0⟩,?_⟩
 rintro i m σ H ⟨rfl,hi,p⟩
 have q:=hl i σ H hi p
 by_cases hlt:i<min z.cps.size ys.length
 ·have h1:i<z.cps.size:=by omega
  have h2:i<ys.length:=by omega
  refine .inr ⟨⟨ys,z.cps[i],ys[i],q,by simp[h1],by simp[h2]⟩,Pv (i+1),λσ' H' p'=>⟨_,(by omega:min z.cps.size ys.length-(i+1)<_),rfl,hlt,p'⟩,λv H' y=>?_⟩
  obtain⟨t,c,y,ht,e1,e2,ec,ey⟩:=y
  subst e1 e2
  exact hs i c y t σ _ ec (ey ys q) ht p
 ·have e:i=min z.cps.size ys.length:=by omega
  subst e
  exact .inl ⟨⟨ys,q,rfl⟩,hd σ H p⟩
section
variable{X:Cx}
end
inductive qW(K:W.Frag)(H:Hp):Nat->V->V->Bool->Prop where
 |flat {n:Nat}{x y:V}:dN x=true->dN y=true->qW K H n x y (Ar x y)
 |same {n:Nat}{a:Addr}:qW K H n (.ref a) (.ref a) true
 |tup {n:Nat}{a b:Addr}{xs ys:List V}{e:Nat->Bool}:a≠b->bD K H a xs->bD K H b ys->(∀(j:Nat) x y,xs[j]?=some x->ys[j]?=some y->qW K H n x y (e j))->qW K H (n+1) (.ref a) (.ref b) ((List.range (min xs.length ys.length)).all e&&xs.length==ys.length)
 |lst {n:Nat}{a b:Addr}{xs ys:List V}{e:Nat->Bool}:a≠b->aN K H a xs->aN K H b ys->xs.length=ys.length->(∀(j:Nat) x y,xs[j]?=some x->ys[j]?=some y->qW K H n x y (e j))->qW K H (n+1) (.ref a) (.ref b) ((List.range xs.length).all e)
 |len {n:Nat}{a b:Addr}{xs ys:List V}:a≠b->aN K H a xs->aN K H b ys->xs.length≠ys.length->qW K H (n+1) (.ref a) (.ref b) false
section
variable{X:Cx}{pins:List (Addr×Obj)}{σ:St}{H:Hp}{s:Shared}
theorem oO{A:Around}{e:Nat->Bool}{xs ys:List V}{us ws:List Value}(r1:Vals xs us)(r2:Vals ys ws)(h:∀(j:Nat) x y u w,xs[j]?=some x->ys[j]?=some y->RelV x u->RelV y w->SeqAt.EqAt A s u w (e j))(j:Nat)(h1:j<us.toArray.size)(h2:j<ws.toArray.size):SeqAt.EqAt A s us.toArray[j] ws.toArray[j] (e j):=by
 have hl1:=r1.length
 have hl2:=r2.length
 have hj1:j<xs.length:=by rw[hl1];simpa using h1
 have hj2:j<ys.length:=by rw[hl2];simpa using h2
 obtain⟨u,eu,ru⟩:=r1.get (i:=j) (x:=xs[j]) (by simp[hj1])
 obtain⟨w,ew,rw'⟩:=r2.get (i:=j) (x:=ys[j]) (by simp[hj2])
 have e1:us.toArray[j]=u:=by
  obtain⟨_,q⟩:=abd.mp eu
  simpa using q
 have e2:ws.toArray[j]=w:=by
  obtain⟨_,q⟩:=abd.mp ew
  simpa using q
 rw[e1,e2]
 exact h j _ _ u w (by simp[hj1]) (by simp[hj2]) ru rw'
theorem J5(I:Inv X pins σ H s){n:Nat}{x y:V}{b:Bool}(h:qW X.K H n x y b):∀{A:Around}{u v:Value},A.units+n<cLine->RelV x u->RelV y v->SeqAt.EqAt A s u v b:=by
 induction h with
 |flat f1 f2=>intro A u v _ ru rv;exact A9 ru rv f1 f2
 |same=>intro A u v _ ru rv;cases ru;cases rv;exact acE _
 |@tup n a b xs ys e ne ha hb _ ih =>
  intro A u v hu ru rv
  cases ru;cases rv
  obtain⟨its,r1,p1,_⟩:=I.tuple ha
  obtain⟨its2,r2,p2,_⟩:=I.tuple hb
  refine acC ne ?_
  have q:=SeqAt.RcAt.tuples (A:=A) (e:=e) p1 p2 'b' λj h1 h2=>oO r1 r2 (λj x y u w ex ey ru rw'=>ih j x y ex ey (by show A.units+1+n<cLine;omega) ru rw') j h1 h2
  rw[abg,abg,←r1.length,←r2.length]at q
  exact q
 |@lst n a b xs ys e ne ha hb hl _ ih =>
  intro A u v hu ru rv
  cases ru;cases rv
  obtain⟨its,r1,p1,_⟩:=I.list ha
  obtain⟨its2,r2,p2,_⟩:=I.list hb
  refine acC ne ?_
  have q:=SeqAt.RcAt.lists (A:=A) (e:=e) p1.isList p2.isList (by rw[abg,abg,←r1.length,←r2.length,hl]) 'b' λj h1 h2=>oO r1 r2 (λj x y u w ex ey ru rw'=>ih j x y ex ey (by show A.units+1+n<cLine;omega) ru rw') j h1 h2
  rw[abg,←r1.length]at q
  exact q
 |@len n a b xs ys ne ha hb hl =>
  intro A u v hu ru rv
  cases ru;cases rv
  obtain⟨its,r1,p1,_⟩:=I.list ha
  obtain⟨its2,r2,p2,_⟩:=I.list hb
  refine acC ne ?_
  exact SeqAt.RcAt.lists_lengths (A:=A) p1.isList p2.isList (by rw[abg,abg,←r1.length,←r2.length];simpa using hl) 'b'
end
section
variable{X:Cx}
end
section
variable{X:Cx}
end
open PySem PySem.Spec PyProof.Rows PySem.W
section
variable(key:Nat->Int)
end
section
variable{prog:Program}{w:World}{A:Around}{s:Shared}{Q:Bool->Shared->Prop}{fin:Bool}
end
theorem fU.ex{P:Program}{w:World}{H:Hp}{h:Heap}{a:Addr}{o:HO}(x:fU P w H h a o):∃ob,h.get? a=some ob:=by
 cases o with
 |lst xs=>obtain⟨_,_,_,_,e⟩:=x;exact⟨_,e⟩
 |tup xs=>obtain⟨_,_,_,o,e,_⟩:=x;exact⟨_,e⟩
 |dK kvs=>obtain⟨_,_,_,_,o,_,_,e,_⟩:=x;exact⟨_,e⟩
 |dT kvs=>obtain⟨_,_,_,_,o,_,_,e,_⟩:=x;exact⟨_,e⟩
 |set S n=>obtain⟨o,_,_,_,e,_⟩:=x;exact⟨_,e⟩
 |ins C dx fs=>obtain⟨_,_,_,e,_⟩:=x;exact⟨_,e⟩
 |own y=>obtain⟨_,e⟩:=x;exact⟨_,e⟩
 |xd fs=>obtain⟨_,⟨_,_,_,e,_⟩,_⟩:=x;exact⟨_,e⟩
 |U7 lo hi=>obtain⟨_,_,_,e⟩:=x;exact⟨_,e⟩
 |Ef ob u=>obtain⟨e,_⟩:=x;exact⟨_,e⟩
 |NG ps=>exact⟨_,(show h.get? a=some _ from x)⟩
 |met f y=>exact⟨_,(show h.get? a=some _ from x)⟩
 |ext φ=>obtain⟨_,⟨_,e⟩,_⟩:=x;exact⟨_,e⟩
section
variable{prog:Program}{w:World}{A:Around}{E:Value->Shared->Prop}{s:Shared}
end
section
variable{X:Cx}
theorem OY:oY X (compareOp .Is) (λx y H Q=>∃a b,x=.bl a/\y=.bl b/\Q (.bl (a==b)) H):=by
 intro pins s σ H x y v u Q I rx ry h
 obtain⟨a,b,rfl,rfl,q⟩:=h
 cases rx
 cases ry
 refine wpAny_is_plain (by cases a<;>cases b<;>rfl) (bF I q ?_)
 cases a<;>cases b<;>rfl
end
open PySem
theorem WC{A B:Prop}{b:Bool}(hb:b=true)(h:A):if b=true then A else B:=by rw[abj hb];exact h
theorem WD{A B:Prop}{b:Bool}(hb:b=false)(h:B):if b=true then A else B:=by rw[abb (by rw[hb];decide)];exact h
theorem xB{p A B:Prop}[Decidable p](hp:p)(h:A):if decide p=true then A else B:=WC (abo hp) h
theorem jk{p A B:Prop}[Decidable p](hp:¬p)(h:B):if decide p=true then A else B:=WD (abn hp) h
theorem WE{p A B:Prop}[Decidable p](hp:p)(h:B):if (!decide p)=true then A else B:=WD (by rw[abo hp];rfl) h
theorem R3{p A B:Prop}[Decidable p](hp:¬p)(h:A):if (!decide p)=true then A else B:=WC (by rw[abn hp];rfl) h
theorem WG{A B:Prop}{b:Bool}(hb:b=true)(h:B):if (!b)=true then A else B:=WD (by rw[hb];rfl) h
theorem WH{A B:Prop}{b:Bool}(hb:b=false)(h:A):if (!b)=true then A else B:=WC (by rw[hb];rfl) h
theorem QT{A B:Prop}{a b:Int}(hp:a=b)(h:A):if decide (V.int a=V.int b)=true then A else B:=xB (by rw[hp]) h
theorem EB{A B:Prop}{a b:Int}(hp:¬a=b)(h:B):if decide (V.int a=V.int b)=true then A else B:=jk (λe=>hp (V.int.inj e)) h
theorem rdJ{A B:Prop}{a b:Int}(hp:a=b)(h:B):if (!decide (V.int a=V.int b))=true then A else B:=WE (by rw[hp]) h
theorem WI{A B:Prop}{a b:Int}(hp:¬a=b)(h:A):if (!decide (V.int a=V.int b))=true then A else B:=R3 (λe=>hp (V.int.inj e)) h
theorem rdB{A B:Prop}{b:Bool}(h1:b=true->A)(h2:b=false->B):if b=true then A else B:=by
 cases b with
 |true=>exact fD (h1 rfl)
 |false=>exact bE (h2 rfl)
theorem NT{p A B:Prop}[Decidable p](h1:p->A)(h2:¬p->B):if decide p=true then A else B:=by
 by_cases h:p
 ·exact xB h (h1 h)
 ·exact jk h (h2 h)
theorem WJ{p A B:Prop}[Decidable p](h1:¬p->A)(h2:p->B):if (!decide p)=true then A else B:=by
 by_cases h:p
 ·exact WE h (h2 h)
 ·exact R3 h (h1 h)
theorem OZ{A B:Prop}{a b:Int}(h1:a=b->A)(h2:¬a=b->B):if decide (V.int a=V.int b)=true then A else B:=by
 by_cases h:a=b
 ·exact QT h (h1 h)
 ·exact EB h (h2 h)
theorem NU{A B:Prop}{a b:Int}(h1:¬a=b->A)(h2:a=b->B):if (!decide (V.int a=V.int b))=true then A else B:=by
 by_cases h:a=b
 ·exact rdJ h (h2 h)
 ·exact WI h (h1 h)
theorem R4{A B:Prop}{a b:Str}(h1:a=b->A)(h2:¬a=b->B):if decide (V.str a=V.str b)=true then A else B :=
 NT (λh=>h1 (V.str.inj h)) (λh=>h2 λe=>h (by rw[e]))
theorem R5{A B:Prop}{a b:Str}(h1:¬a=b->A)(h2:a=b->B):if (!decide (V.str a=V.str b))=true then A else B :=
 WJ (λh=>h1 λe=>h (by rw[e])) (λh=>h2 (V.str.inj h))
section
variable{prog:Program}{w:World}{A:Around}{E:Value->Shared->Prop}{s:Shared}
end
section
variable{X:Cx}{e:Expr}{te:TE}
end
section
variable{prog:Program}{w:World}{A:Around}{E:Value->Shared->Prop}{s:Shared}
end
theorem xU(x:Str)(t:Tok):slicePicked x none none (some (-1,t))=(List.range x.length).map λk=>x.length-1-k:=by
 show Builtin.Str.strSliceIndices none none (-1) x.length=_
 unfold Builtin.Str.strSliceIndices
 exact W.krv_sliceRange x.length
theorem Bf(x:Str)(t u:Tok):sliceMade x t none none (some (-1,u))=.str ⟨x.cps.toList.reverse.toArray⟩:=by
 unfold sliceMade
 have e:((Option.map (λx:Int×Tok=>x.fst) (some (-1,u))).getD 1==1)=false:=rfl
 rw[e,ab0,abb 'c',xU,W.krv_range]
 rw[List.filterMap_reverse]
 have:=W.krv_all x.cps
 rw[show x.length=x.cps.size from rfl,this]
def qX(z:Str):Str:=⟨z.cps.toList.reverse.toArray⟩
def Mq(te Ml:TE):TE:=λσ H Q=>te σ H λx H1=>Ml σ H1 λy H2=>∃z,y=.int (-1)/\x=.str z/\z.length<=sizeLine/\Q (.str (qX z)) H2
theorem HF{X:Cx}{e st:Expr}{te Ml:TE}{p2 pos:Pos}(he:PE X e te)(hst:PE X st Ml):PE X (.Subscript e (.Slice none none (some st) p2) pos) (Mq te Ml):=by
 intro pins s σ H Q I h
 refine Subscript_ (dJ (he pins s σ H _ I h) λv s1 ⟨x,H1,I1,r1,q1⟩=>?_)
 refine wpAny_Slice ?_
 rw[evalPart_none]
 refine abz ?_
 refine abz ?_
 rw[evalPart_some]
 refine dJ (hst pins s1 σ H1 _ I1 q1) λvs s3 ⟨y,H3,I3,r3,q3⟩=>?_
 obtain⟨z,rfl,rfl,hz,q⟩:=q3
 obtain⟨tz,rfl⟩:=r1
 obtain⟨t,rfl⟩:=r3
 have I4:Inv X pins σ H3 {s3 with heap:=s3.heap.push {cls:=.type "slice",data:=.fields #[.none,.none,.int (-1) t]}}:=I3.kept (t':=s3.toks) λb ob q=>abm _ q
 show wpAny 'f' X.A (subscriptTail e (.Slice none none (some st) p2) (.str z tz) (.ref s3.heap.objs.size)) (EP X pins σ Q) X.xe {s3 with heap:=s3.heap.push {cls:=.type "slice",data:=.fields #[.none,.none,.int (-1) t]}}
 refine tail_any (ops:=[.str z tz,.ref s3.heap.objs.size]) (typeIs_str _ _ _) F.slot_str_getitem.lookup ?_ (by with_unfolding_all rfl)
 refine acw (l:=none) (u:=none) (st:=some (-1,t)) ⟨_,abC _ rfl,rfl,rfl⟩ rfl ?_
 rw[Bf]
 exact⟨by show z.cps.toList.reverse.toArray.size<=sizeLine;rw[abg,List.length_reverse,abA];exact hz,.str _,H3,I4.tok _,⟨_,O⟩,q⟩
theorem uc{X:Cx}:oY X (compareOp .IsNot) (λx y H Q=>∃a b,x=.bl a/\y=.bl b/\Q (.bl (!(a==b))) H):=by
 intro pins s σ H x y v u Q I rx ry h
 obtain⟨a,b,rfl,rfl,q⟩:=h
 cases rx
 cases ry
 refine wpAny_isNot_plain (by cases a<;>cases b<;>rfl) (bF I q ?_)
 cases a<;>cases b<;>rfl
def WK(h₀:Heap)(H:Hp)(h:Heap)(e:Addr)(vs:Array Value):Option Value->Prop
 |none=>vs[1]?=some .none/\vs[2]?=some .none
 |some v=>∃T oT ts,vs[1]?=some (.ref T)/\H T=none/\h₀.get? T=none/\T≠e/\h.get? T=some oT/\oT.data=.fields ts/\ts[3]?=some v/\vs[2]?=some .none
structure Exc(h₀:Heap)(H:Hp)(h:Heap)(e:Addr)(C:Value)(od:Option Addr)(fl:Option Value):Prop where
 fr:H e=none
 nw:h₀.get? e=none
 tr:∃oe vs,h.get? e=some oe/\oe.cls=C/\oe.dict=od/\oe.data=.fields vs/\WK h₀ H h e vs fl
structure Mv(fs ch:List Addr)(h h':Heap):Prop where
 keep:∀b o,b∉ch->b∉fs->h.get? b=some o->h'.get? b=some o
 slot:∀b o,b∉ch->h.get? b=some o->∃sl,h'.get? b=some {o with slots:=sl}
 there:∀b o,h.get? b=some o->∃o',h'.get? b=some o'
theorem Mv.trans{fs ch:List Addr}{h h1 h2:Heap}(a:Mv fs ch h h1)(b:Mv fs ch h1 h2):Mv fs ch h h2 :=
 ⟨λc o n1 n2 q=>b.keep c o n1 n2 (a.keep c o n1 n2 q),λc o n q=>let ⟨sl,q1⟩:=a.slot c o n q;let ⟨sl2,q2⟩:=b.slot c _ n q1;⟨sl2,q2⟩,λc o q=>let ⟨o1,q1⟩:=a.there c o q;b.there c o1 q1⟩
theorem Mv.mono{fs fs' ch ch':List Addr}{h h':Heap}(a:Mv fs ch h h')(hf:∀b∈fs,b∈fs')(hc:∀b∈ch,b∈ch'):Mv fs' ch' h h' :=
 ⟨λc o n1 n2 q=>a.keep c o (λz=>n1 (hc c z)) (λz=>n2 (hf c z)) q,λc o n q=>a.slot c o (λz=>n (hc c z)) q,a.there⟩
theorem Mv.refl{fs ch:List Addr}{h:Heap}:Mv fs ch h h:=⟨λ_ _ _ _ q=>q,λ_ o _ q=>⟨o.slots,q⟩,λ_ o q=>⟨o,q⟩⟩
theorem Mv.of_slots{fs ch:List Addr}{h h':Heap}(x:Heap.SlotsOnly fs h h'):Mv fs ch h h' :=
 ⟨λb o _ n q=>(x.2.1 b n).trans q,λb o _ q=>x.2.2 b o q,λb o q=>let ⟨sl,e⟩:=x.2.2 b o q;⟨_,e⟩⟩
theorem Mv.push{fs ch:List Addr}{h:Heap}(o:Obj):Mv fs ch h (h.push o) :=
 ⟨λb u _ _ q=>abm _ q,λb u _ q=>⟨u.slots,abm _ q⟩,λb u q=>⟨u,abm _ q⟩⟩
theorem Mv.upd{fs ch:List Addr}{h:Heap}{a:Addr}{f:Obj->Obj}{o:Obj}(ha:a∈ch)(q:h.get? a=some o)(hf:(f o).isFreed=false):Mv fs ch h (h.update a f):=by
 have ne:∀b,b∉ch->a≠b:=λb n z=>n (z▸ha)
 refine⟨λb u n _ e=>(ab3 _ _ (ne b n)).trans e,λb u n e=>⟨u.slots,(ab3 _ _ (ne b n)).trans e⟩,λb u e=>?_⟩
 by_cases hb:a=b
 ·subst hb;exact⟨_,Heap.get?_update_self _ q hf⟩
 ·exact⟨u,(ab3 _ _ hb).trans e⟩
theorem Mv.frames{fs ch:List Addr}{h h' base:Heap}(x:Mv fs ch h h'){l:List Env}(hl:h.FunFrames base l)(hc:∀b∈ch,∀o,h.get? b=some o->∃vs,o.data=.fields vs):h'.FunFrames base l :=
 hl.of_keeps λb o q nf=>by
  have n:b∉ch:=λz=>let ⟨vs,e⟩:=hc b z o q;nf vs e
  obtain⟨sl,e⟩:=x.slot b o n q
  exact⟨_,e,O⟩
section
variable{M:Model}{A:Around}{E:Value->Shared->Prop}{s:Shared}{base:Heap}{env:Env}{outer:List Env}{L e:Addr}{Q:Unit->Shared->Prop}
theorem Ax{oe:Obj}{vs:Array Value}{head:Value}{hn:Bool}(hfr:A.frames=some (env::outer))(hl:s.heap.FunFrames base (env::outer))(hf:env.frame=some L)(he:s.heap.get? e=some oe)(hd:oe.data=.fields vs)(hsz:1<vs.size)(k:∀h' T oT ts,Mv (frs (env::outer)) [e] s.heap h'->s.heap.objs.size<=T->T≠e->h'.get? e=some (oe.mapFields (·.setIfInBounds 1 (.ref T)))->h'.get? T=some oT->oT.data=.fields ts->ts[3]?=some (rawInt L)->Q () {s with heap:=h'}):wpAny M A (do let a ←frameOf env;let pl ←entryPlaceOf L hn;let b ←EntryCells.newEntry head a .none (rawInt L) .none pl;setField (.ref e) 1 b) Q E s:=by
 have hnf:e∉(env::outer).filterMap (·.frame):=λz=>by
  obtain⟨_,o,ho,nf⟩:=hl.mem z
  rw[he]at ho
  cases ho
  exact nf vs hd
 refine abe (wpAny_frameOf_fun hfr hl hf λh1 s1=>abe (wpAny_entryPlaceOf λpl hpl=>?_))
 unfold EntryCells.newEntry newFields
 refine abe (wpAny_newObj_type ?_ (hpl.sizeOk5 _ _ _ _ _))
 have e1:h1.get? e=some oe:=(s1.2.1 e hnf).trans he
 have e2:=λo=>abm (h:=h1) o e1
 refine wpAny_setField (e2 _) hd hsz ?_
 have hne:h1.objs.size≠e:=acL (abu e1)
 have fd:=acn hd (·.setIfInBounds 1 (Value.ref h1.objs.size))
 have m1:Mv (frs (env::outer)) [e] s.heap h1:=Mv.of_slots s1
 refine k _ h1.objs.size _ _ ((m1.trans (Mv.push _)).trans (Mv.upd (abf.mpr rfl) (e2 _) (Obj.isFreed_of_fields fd))) ?_ hne (Heap.get?_update_self _ (e2 _) (Obj.isFreed_of_fields fd)) ((ab3 _ _ (acu hne)).trans (abC h1 rfl)) rfl ?_
 ·rw[s1.1];exact abh _
 ·first | (simp;done) | (rcases hpl with rfl|⟨_,_,_,_,_,_,_,rfl⟩<;>simp)
end
section
variable{M:Model}{A:Around}{E:Value->Shared->Prop}{s:Shared}{base h₀:Heap}{H:Hp}{env:Env}{outer:List Env}{L e:Addr}{C:Value}{od:Option Addr}{Q:Unit->Shared->Prop}
def O0(h₀:Heap)(H:Hp)(ch:List Addr):Prop:=∀b∈ch,H b=none/\h₀.get? b=none
theorem C8(oe:Obj)(f:Array Value->Array Value):(oe.mapFields f).cls=oe.cls:=Obj.cls_mapFields _ _
theorem Ay(oe:Obj)(f:Array Value->Array Value):(oe.mapFields f).dict=oe.dict:=by
 obtain⟨c,d,dt,sl⟩:=oe
 cases dt<;>rfl
theorem J6{fl:Option Value}(hfr:A.frames=some (env::outer))(hl:s.heap.FunFrames base (env::outer))(hf:env.frame=some L)(x:Exc h₀ H s.heap e C od fl)(hfl:fl=none\/fl=some .none\/fl=some (rawInt L))(ht:∀b o,h₀.get? b=some o->∃o',s.heap.get? b=some o')(hH:∀b,s.heap.objs.size<=b->H b=none)(k:∀h' ch,O0 h₀ H ch->Mv (frs (env::outer)) ch s.heap h'->Exc h₀ H h' e C od (some (rawInt L))->Q () {s with heap:=h'}):wpAny M A (noteFrame (.ref e) env) Q E s:=by
 obtain⟨fr,nw,oe,vs,he,hc,hdi,hd,fa⟩:=x
 have R6:∀T,s.heap.get? T=none->h₀.get? T=none:=λT hT=>by
  cases q:h₀.get? T with
  |none=>rfl
  |some o=>obtain⟨o',z⟩:=ht T o q;rw[hT]at z;cases z
 unfold noteFrame
 simp only[hf]
 rcases hfl with rfl|rfl|rfl
 ·obtain⟨h1,Gi⟩:=fa
  refine abe (ace he hd h1 ?_)
  rw[abb 'c']
  have hsz:=(ab9.mp h1).1
  refine Ax hfr hl hf he hd hsz λh' T oT ts m zT hne e1 eT dT t3=>?_
  have nT:s.heap.get? T=none:=Heap.get?_none_of_le zT
  have hT:H T=none:=hH T zT
  refine k h' [e] (λb hb=>?_) m ⟨fr,nw,_,_,e1,(C8 _ _).trans hc,(Ay _ _).trans hdi,acn hd _,T,oT,ts,by simp[hsz],hT,R6 T nT,hne,eT,dT,t3,by rw[Array.getElem?_setIfInBounds_ne 'c'];exact Gi⟩
  rw[abf.mp hb]
  exact⟨fr,nw⟩
 ·obtain⟨T0,o0,t0,h1,n0,w0,QU,q0,d0,z3,Gi⟩:=fa
  refine abe (ace he hd h1 ?_)
  rw[abj (show(Value.ref T0 != Value.none)=true from by simp)]
  refine abe (ace q0 d0 z3 ?_)
  rw[abb (show ¬((Value.none==rawInt L)=true) from by simp[rawInt])]
  have z3s:=(ab9.mp z3).1
  refine abe (wpAny_setField q0 d0 z3s ?_)
  have hsz:=(ab9.mp h1).1
  have m0:Mv (frs (env::outer)) [e,T0] s.heap (s.heap.update T0 (Obj.mapFields (·.setIfInBounds 3 Value.none))) :=
   Mv.upd (abp _ (abf.mpr rfl)) q0 (Obj.isFreed_of_fields (acn d0 _))
  have WL:(s.heap.update T0 (Obj.mapFields (·.setIfInBounds 3 Value.none))).get? e=some oe:=(ab3 _ _ QU).trans he
  have hl1:(s.heap.update T0 (Obj.mapFields (·.setIfInBounds 3 Value.none))).FunFrames base (env::outer):=m0.frames hl λb hb o q=>by
   rcases abt.mp hb with rfl|hb
   ·rw[he]at q;cases q;exact⟨vs,hd⟩
   ·rw[abf.mp hb,q0]at q;cases q;exact⟨t0,d0⟩
  have zs:(s.heap.update T0 (Obj.mapFields (·.setIfInBounds 3 Value.none))).objs.size=s.heap.objs.size:=Heap.size_after_update ..
  refine Ax (s:={s with heap:=s.heap.update T0 (Obj.mapFields (·.setIfInBounds 3 Value.none))}) hfr hl1 hf WL hd hsz λh' T oT ts m zT hne e1 eT dT t3=>?_
  have zT:s.heap.objs.size<=T:=by rw[←zs];exact zT
  have nT:s.heap.get? T=none:=Heap.get?_none_of_le zT
  refine k h' [e,T0] (λb hb=>?_) (m0.trans (m.mono (λ_ z=>z) λb z=>by rw[abf.mp z];exact abl)) ⟨fr,nw,_,_,e1,(C8 _ _).trans hc,(Ay _ _).trans hdi,acn hd _,T,oT,ts,by simp[hsz],hH T zT,R6 T nT,hne,eT,dT,t3,by rw[Array.getElem?_setIfInBounds_ne 'c'];exact Gi⟩
  rcases abt.mp hb with rfl|hb
  ·exact⟨fr,nw⟩
  ·rw[abf.mp hb];exact⟨n0,w0⟩
 ·obtain⟨T0,o0,t0,h1,n0,w0,QU,q0,d0,z3,Gi⟩:=fa
  refine abe (ace he hd h1 ?_)
  rw[abj (show(Value.ref T0 != Value.none)=true from by simp)]
  refine abe (ace q0 d0 z3 ?_)
  rw[abj (show(rawInt L==rawInt L)=true from by simp)]
  refine abz ?_
  exact k s.heap [] (λb hb=>nomatch hb) Mv.refl ⟨fr,nw,oe,vs,he,hc,hdi,hd,T0,o0,t0,h1,n0,w0,QU,q0,d0,z3,Gi⟩
theorem J7{v:Value}(x:Exc h₀ H s.heap e C od (some v))(k:∀h' ch,O0 h₀ H ch->Mv [] ch s.heap h'->Exc h₀ H h' e C od (some .none)->Q () {s with heap:=h'}):wpAny M A (setFlight (.ref e) none) Q E s:=by
 obtain⟨fr,nw,oe,vs,he,hc,hdi,hd,T,oT,ts,h1,n0,w0,QU,q0,d0,z3,Gi⟩:=x
 have hsz:=(ab9.mp z3).1
 refine wpAny_setFlight_none he hd h1 q0 d0 hsz (k _ [T] (λb hb=>?_) (Mv.upd (abf.mpr rfl) q0 (Obj.isFreed_of_fields (acn d0 _))) ⟨fr,nw,oe,vs,(ab3 _ _ QU).trans he,hc,hdi,hd,T,_,_,h1,n0,w0,QU,Heap.get?_update_self _ q0 (Obj.isFreed_of_fields (acn d0 _)),acn d0 _,by simp[hsz],Gi⟩)
 rw[abf.mp hb]
 exact⟨n0,w0⟩
theorem HG{fl:Option Value}(hfr:A.frames=some (env::outer))(hl:s.heap.FunFrames base (env::outer))(hf:env.frame=some L)(x:Exc h₀ H s.heap e C od fl)(hfl:fl=none\/fl=some .none\/fl=some (rawInt L))(ht:∀b o,h₀.get? b=some o->∃o',s.heap.get? b=some o')(hH:∀b,s.heap.objs.size<=b->H b=none)(k:∀h' ch,O0 h₀ H ch->Mv (frs (env::outer)) ch s.heap h'->Exc h₀ H h' e C od (some .none)->Q () {s with heap:=h'}):wpAny M A (leaving env (.ref e)) Q E s:=by
 unfold leaving
 refine abe (J6 hfr hl hf x hfl ht hH λh1 c1 k1 m1 x1=>?_)
 refine J7 x1 λh2 c2 k2 m2 x2=>?_
 refine k h2 (c1++c2) (λb hb=>(abG.mp hb).elim (k1 b) (k2 b)) ((m1.mono (λ_ z=>z) λb z=>List.mem_append_left _ z).trans (m2.mono (λb z=>nomatch z) λb z=>abO _ z)) x2
end
section
variable{X:Cx}{pins:List (Addr×Obj)}{σ σ':St}{H H':Hp}{s s1:Shared}
theorem Inv.mv{h':Heap}{ch:List Addr}(I:Inv X pins σ H s)(J:Inv X pins σ' H' s1)(m:Mv (frs X.stack) ch s1.heap h')(hc:∀b∈ch,H' b=none/\s.heap.get? b=none):Inv X pins σ' H' {s1 with heap:=h'}:=by
 have Lz:∀b o,s.heap.get? b=some o->b∉ch:=λb o e z=>by rw[(hc b z).2]at e;cases e
 have n0:∀b o,X.s₀.heap.get? b=some o->b∉X.ex->b∉ch:=λb o e hx=>let ⟨o',e'⟩:=I.base.there b o e hx;Lz b o' e'
 have Va:∀b o,X.s₀.heap.get? b=some o->b≠X.env.locals:=λb o e=>abP (abD (abu e) I.ok.above)
 have nst:∀b,b≠X.env.locals->b∉X.fs->b∉frs X.stack:=λb h1 h2 z=>(abt.mp (I.qo b z)).elim h1 h2
 have cellK:∀x c,X.env.cells.lookup x=some c->∀v,s1.heap.IsCell c v->Heap.IsCell h' c v:=λx c e v ⟨o,ho,hd⟩=>by
  obtain⟨v0,o0,e0,_⟩:=I.cell x c e
  obtain⟨sl,q⟩:=m.slot c o (Lz c o0 e0) ho
  exact⟨_,q,hd⟩
 have WM:∃o,s.heap.get? X.env.locals=some o:=let ⟨m',⟨o,_,_,ho,_⟩,_⟩:=I.loc;⟨o,ho⟩
 obtain⟨oL,eL⟩:=WM
 refine⟨J.ok,J.os,J.bare,⟨λb o e n hb hx=>m.keep b o (n0 b o e hx) (nst b (Va b o e) hb) (J.base.keep b o e n hb hx),λb o e n hb hx=>?_,J.base.free,λb o e hx=>?_,J.base.tups,J.base.tT,J.base.wk⟩,?_,λx c e=>?_,J.free,J.mV,λp hp=>?_,λa o e=>?_,J.len⟩
 ·obtain⟨sl,e1⟩:=J.base.slot b o e n hb hx
  obtain⟨sl2,e2⟩:=m.slot b _ (n0 b o e hx) e1
  exact⟨sl2,e2⟩
 ·obtain⟨o',e1⟩:=J.base.there b o e hx
  exact m.there b o' e1
 ·obtain⟨mm,⟨o,es,ep,ho,r⟩,hl⟩:=J.loc
  obtain⟨sl,q⟩:=m.slot _ o (Lz _ oL eL) ho
  refine⟨mm,⟨_,es,ep,q,r⟩,λi x v e1 e2 e3=>?_⟩
  obtain⟨u,r1,l⟩:=hl i x v e1 e2 e3
  refine⟨u,r1,?_⟩
  rcases l with l|⟨k,c,e,z⟩
  ·exact .inl l
  ·exact .inr ⟨k,c,e,cellK x c e _ z⟩
 ·obtain⟨v,z⟩:=J.cell x c e
  exact⟨v,cellK x c e v z⟩
 ·obtain⟨e0,_,_,_,_⟩:=I.pin p hp
  obtain⟨e,n,ne,nf,d⟩:=J.pin p hp
  exact⟨m.keep p.1 p.2 (Lz _ _ e0) (nst _ ne nf) e,n,ne,nf,d⟩
 ·refine(J.hok a o e).stay (λb u hb q=>m.keep b u (λz=>?_) (λz=>?_) q) (λ_ q=>q) λ_ _ q=>q
  ·have:=(hc b z).1
   rcases hb with rfl|hb
   ·rw[this]at e;cases e
   ·rw[this]at hb;cases hb
  ·have:=J.xu b z
   rcases hb with rfl|hb
   ·rw[this]at e;cases e
   ·rw[this]at hb;cases hb
def NV(P:Program)(w:World):Hr:=λouter H s E e s'=>∃ea C od H',e=.ref ea/\s'.os=s.os/\AllBare s'.gens/\Un (frs outer) [] H H' s.heap s'.heap/\tS P w H' s'.heap/\Exc s.heap H' s'.heap ea C od (some .none)/\E C od H'
theorem Exc.older{h₀ h1 h:Heap}{H:Hp}{e:Addr}{C:Value}{od:Option Addr}{fl:Option Value}(x:Exc h1 H h e C od fl)(ht:∀b,h1.get? b=none->h₀.get? b=none):Exc h₀ H h e C od fl:=by
 obtain⟨fr,nw,oe,vs,he,hc,hdi,hd,fa⟩:=x
 refine⟨fr,ht _ nw,oe,vs,he,hc,hdi,hd,?_⟩
 cases fl with
 |none=>exact fa
 |some v=>obtain⟨T,oT,ts,h1,n0,w0,r⟩:=fa;exact⟨T,oT,ts,h1,n0,ht _ w0,r⟩
theorem leaveX{E:XK}{E':Value->Shared->Prop}{ea:Addr}{C:Value}{od:Option Addr}{fl:Option Value}(hst:X.stack=X.env::X.outer)(hfm:X.env.frame=some X.env.locals)(hex:X.ex=[])(I:Inv X pins σ H s)(J:Inv X pins σ' H' s1)(ht:∀b o,s.heap.get? b=some o->∃o',s1.heap.get? b=some o')(x:Exc s.heap H' s1.heap ea C od fl)(hfl:fl=none\/fl=some .none\/fl=some (rawInt X.env.locals))(hE:E C od H'):wpAny 'f' X.A (leaving X.env (.ref ea)) (λ_ s''=>NV X.prog X.w X.outer X.H₀ X.s₀ E (.ref ea) s'') E' s1:=by
 have hl:=J.stack
 rw[hst]at hl
 refine HG (J.ok.frames.trans (by rw[hst])) hl hfm x hfl ht (λb hb=>J.hok.fresh hb) λh' ch hc m x'=>?_
 have K:=I.mv J (h':=h') (by rw[hst];exact m) hc
 have old:∀b,s.heap.get? b=none->X.s₀.heap.get? b=none:=λb hb=>by
  cases q:X.s₀.heap.get? b with
  |none=>rfl
  |some o=>obtain⟨o',z⟩:=I.base.there b o q (by rw[hex];simp);rw[hb]at z;cases z
 have U:=K.base
 rw[hex]at U
 exact⟨ea,C,od,H',O,J.os,J.bare,U,K.hok,x'.older old,hE⟩
end
section
variable{P:Program}{w:World}{K:W.Frag}{mg:Str->Option Value}{base:Heap}{N:List Str}{qual:Str}{scope:Scope}{f:Addr}{cd:Value}{A:Around}{outer:List Env}{s:Shared}{H:Hp}{E:XK}
theorem fB.okE{x:Str}{st:Stmt}{fd:FuncData}{ps:List Str}{k:Nat}{sp:Sp}(F:fB K x qual st f fd)(S:aP N ps (aA st))(len:∀vs H Q E,sp vs H Q E->vs.length=ps.length)(hbody:∀(cdv:Value)(A:Around)(outer:List Env)(s:Shared)(H:Hp)(vs:List V)(Q:VK)(E:XK),dM k (A.deeper (envOfC qual (aA st) s.heap.objs.size f cdv))->sp vs H Q E->∃t,FJ (AW (NV P w) P w K mg base N qual (aA st) f cdv A outer s H E) (cK st) t/\t {nx:=λ_ H'=>Q .non H',rt:=Q} (start N vs) H):bu P w K mg base (NV P w) (k+1) f fd ps sp:=by
 obtain⟨oc,od,kV,doc,pm,an,cdv,ct,osl,rfl,lk,hcd⟩:=F.ex
 exact JA lk hcd S len λA outer s H vs Q E hr IY=>hbody cdv A outer s H vs Q E hr IY
end
theorem tS.none{P:Program}{w:World}{H:Hp}{h:Heap}{a:Addr}(x:tS P w H h)(e:h.get? a=Option.none):H a=Option.none:=by
 cases q:H a with
 |none=>rfl
 |some u=>obtain⟨o,z⟩:=(x a u q).ex;rw[e]at z;cases z
abbrev zm:List Value:=[.type "ValueError",.type "Exception",.type "BaseException",.type "object"]
structure J8(K:W.Frag)(C N:Addr)(bm:List Value)(ini:Option Value):Prop where
 ob:∃nm q bs hdct sn sub ab col dd k0 k1 k2 k3 k5,K.lookup C=some (excClassObj nm q C N bs bm hdct sn sub ab col dd k0 k1 k2 k3 k5 "ValueError.__new__")
 ns:∃oc od es n sl,K.lookup N=some ⟨oc,od,.dict es n,sl⟩/\(es.toList.all λe=>match e.key with | .str _ _=>true|_=>false)=true
 ini:W.nsIn K N "__init__"=some ini
def R7(K:W.Frag)(bm:List Value):Prop:=bm=zm\/∃D ND,bm=.ref D::zm/\J8 K D ND zm none
section
variable{K:W.Frag}{h:Heap}{C N:Addr}{bm:List Value}{ini:Option Value}
theorem J8.names(x:J8 K C N bm ini):∃m:Str->Option Value,m "__init__"=ini/\∀h,K.In h->h.Ns N m:=by
 obtain⟨oc,od,es,n,sl,lk,al⟩:=x.ns
 have sk:StrKeys es:=λe he=>by
  have z:=abK.mp al e (by simpa using he)
  revert z
  cases e.key<;>intro z<;>first|exact⟨_,_,rfl⟩|cases z
 refine⟨nsFind es,?_,λh D6=>⟨_,es,n,D6 _ _ lk,O,sk,λ_=>rfl⟩⟩
 have e:=x.ini
 unfold W.nsIn at e
 rw[lk]at e
 dsimp only at e
 unfold nsFind findBy
 rw[←Array.find?_toList]
 cases q:es.toList.find? (·.key.isStr "__init__") with
 |some en =>
  rw[q]at e
  exact abx e
 |none =>
  rw[q]at e
  dsimp only at e
  split at e
  ·cases e
  ·exact abx e
theorem J8.obj(x:J8 K C N bm ini)(D6:K.In h):∃nm q bs hdct sn sub ab col dd k0 k1 k2 k3 k5,h.get? C=some (excClassObj nm q C N bs bm hdct sn sub ab col dd k0 k1 k2 k3 k5 "ValueError.__new__"):=by
 obtain⟨nm,q,bs,hdct,sn,sub,ab,col,dd,k0,k1,k2,k3,k5,e⟩:=x.ob
 exact⟨nm,q,bs,hdct,sn,sub,ab,col,dd,k0,k1,k2,k3,k5,D6 _ _ e⟩
theorem R7.tail(x:R7 K bm)(D6:K.In h):OwnTail h zm bm:=by
 rcases x with rfl|⟨D,ND,rfl,d⟩
 ·exact .base
 ·obtain⟨nm,q,bs,hdct,sn,sub,ab,col,dd,k0,k1,k2,k3,k5,e⟩:=d.obj D6
  obtain⟨m,mi,mn⟩:=d.names
  exact .own e (mn h D6) mi .base
theorem R7.base(x:R7 K bm):bm.contains (.type "BaseException")=true:=by
 rcases x with rfl|⟨D,ND,rfl,d⟩
 ·decide
 ·rw[List.contains_cons];rfl
end
section
variable{P:Program}{w:World}{K:W.Frag}{mg:Str->Option Value}{base:Heap}{N0:List Str}{qual:Str}{scope:Scope}{f:Addr}{cd:Value}{A:Around}{outer:List Env}{s0:Shared}{H0:Hp}{E:XK}
def O1(E:XK)(C:Addr)(t:TA):TS:=λ_ σ H=>t σ H λvs H1=>vs.length<=sizeLine/\E (.ref C) none H1
theorem J9{X:Cx}(hX:X=AW (NV P w) P w K mg base N0 qual scope f cd A outer s0 H0 E){C N:Addr}{bm:List Value}{x:Str}{np cpos pos:Pos}{e:Expr}{es:List Expr}{t:TA}(c:J8 K C N bm none)(tl:R7 K bm)(hg:Gl X x)(hm:mg x=some (.ref C))(ha:PA X (e::es) t)(hdb:(x==("__debug__":Str))=false:=by decide)(he:starEach (e::es) X.env=(false,eval e X.env)::starEach es X.env:=by rfl)(hpl:(backTo cpos (starEach es X.env)).any (·.1)=false:=by rfl):PS X (.Raise (some (.Call (.Name x np) (e::es) [] cpos)) none pos) (O1 E C t):=by
 intro pins s σ H D I h
 obtain⟨nm,q,bs,hdct,sn,sub,ab,col,dd,k0,k1,k2,k3,k5,lk⟩:=c.ob
 obtain⟨m,mi,mn⟩:=c.names
 have hx:X.xe=λ(e:Value)(s':Shared)=>wpAny 'f' X.A (leaving X.env e) (λ_ s''=>NV X.prog X.w X.outer X.H₀ X.s₀ E e s'') (λe' s''=>NV X.prog X.w X.outer X.H₀ X.s₀ E e' s'') s':=by subst hX;rfl
 have WN:(backTo cpos (starEach (e::es) X.env)).any (·.1)=false:=by rw[he];exact hpl
 have hst:X.stack=X.env::X.outer:=by subst hX;rfl
 have hfm:X.env.frame=some X.env.locals:=by subst hX;rfl
 have hex:X.ex=[]:=by subst hX;rfl
 have hmg:X.mg x=some (.ref C):=by subst hX;exact hm
 have hcm:X.calm=true:=by subst hX;rfl
 have hK:X.K=K:=by subst hX;rfl
 refine wpAny_Raise_call_subU (C:=C) (nm:=nm) (q:=q) (N:=N) (bs:=bs) (bm:=bm) (hdct:=hdct) (sn:=sn) (sub:=sub) (ab:=ab) (col:=col) (dd:=dd) (k0:=k0) (k1:=k1) (k2:=k2) (k3:=k3) (k5:=k5) (newId:="ValueError.__new__")
  PySem.F.excBase_ValueError 'c' PySem.F.excBase_ValueError (mN:=m) tl.base (I.ok.hd hcm) WN mi (xw I hg hmg ⟨rfl,?_⟩ hdb)
 have z:=ha cpos pins s σ H _ I h
 rw[he]at z⊢
 refine Calls.evalArgs_plain (dJ z λus s1 ⟨vs,H1,I1,r,hl,hE⟩=>?_)
 have D6:K.In s1.heap:=by rw[←hK];exact I1.tR
 refine⟨O,by show us.length<=sizeLine;rw[←r.length];exact hl,D6 _ _ lk,mn _ D6,tl.tail D6,λh' ea md=>?_⟩
 obtain⟨ta,q1,_,_⟩:=md.there
 rw[hx]
 exact leaveX (fl:=none) hst hfm hex I1 (I1.kept (t':=s1.toks) md.keeps) (λb o q=>⟨o,md.keeps b o q⟩) ⟨I1.hok.none md.new,md.new,_,_,q1,rfl,rfl,rfl,rfl,rfl⟩ (.inl rfl) hE
end
section
abbrev TEx:=St->Hp->VK->XK->Prop
def XP(X:Cx)(pins:List (Addr×Obj))(σ:St)(Ex:XK)(e:Value)(s':Shared):Prop :=
 ∃ea C od H' s2 H2,e=.ref ea/\Inv X pins σ H2 s2/\Inv X pins σ H' s'/\(∀b o,s2.heap.get? b=some o->∃o',s'.heap.get? b=some o')/\Exc s2.heap H' s'.heap ea C od (some .none)/\Ex C od H'
variable{X:Cx}{k:Nat}{f C:Addr}{fd:FuncData}{ps:List Str}{sp:Sp}{yY:List V}{ds:List Value}{x m:Str}{p pos apos:Pos}{e o:Expr}{es:List Expr}{ta:TE}{t:TA}{te:TEx}
end
section
variable{X:Cx}{pins:List (Addr×Obj)}{σ σ':St}{H H':Hp}{s s1:Shared}
end
section
variable{M:Model}{A:Around}{E:Value->Shared->Prop}{K:W.Frag}{s:Shared}{C D N N' ea:Addr}{bm bm':List Value}{ini WO:Option Value}{Q:Bool->Shared->Prop}
end
section
variable{X:Cx}{pins:List (Addr×Obj)}{σ:St}{H:Hp}{s:Shared}{ea:Addr}
end
end L2
set_option maxHeartbeats 1000000
namespace L2
open PySem PySem.Spec PyProof.Rows PySem.Builtin PySem.Builtin.ObjectAttr
section
variable{P:Program}{w:World}{A:Around}{E:Value->Shared->Prop}{s:Shared}{K:W.Frag}{C N x:Addr}{bm:List Value}{ini:Option Value}{f:Str}{v:Value}{ox:Obj}{vs:Array Value}
theorem J8.cls(c:J8 K C N bm ini)(h:W.hasDictIn K C=true):∃cd,W.clsIn K C=some cd/\cd.mro=.ref C::bm/\cd.hasDict=true:=by
 obtain⟨nm,q,bs,hdct,sn,sub,ab,col,dd,k0,k1,k2,k3,k5,lk⟩:=c.ob
 obtain⟨cd,hc,hd⟩:=W.any_some h
 refine⟨cd,hc,?_,hd⟩
 unfold W.clsIn at hc
 rw[lk]at hc
 cases hc
 rfl
end
section
variable{P:Program}{w:World}{A:Around}{E:Value->Shared->Prop}{K:W.Frag}{C N fI:Addr}{bm:List Value}{us:List Value}
end
section
variable{X:Cx}{pins:List (Addr×Obj)}{σ:St}{H:Hp}{s:Shared}{a:Addr}{φ:Heap->Prop}
end
section
variable{X:Cx}{e:Expr}{te:TE}{pos:Pos}
end
section
variable{X:Cx}{C N D fI:Addr}{bm:List Value}{ini:Option Value}{x f:Str}{np ap pos cpos pos':Pos}{e o value a1 a2:Expr}{es:List Expr}{t:TA}{ta tv te:TE}
end
section
variable{P:Program}{w:World}{K:W.Frag}{mg:Str->Option Value}{base:Heap}{N0:List Str}{qual:Str}{scope:Scope}{f:Addr}{cd:Value}{A:Around}{outer:List Env}{s0:Shared}{H0:Hp}{E:XK}
end
section
variable{P:Program}{w:World}{A:Around}{E:Value->Shared->Prop}{s:Shared}{K:W.Frag}{C N x:Addr}{bm:List Value}{ini:Option Value}{f:Str}{v:Value}{ox:Obj}{vs:Array Value}
end
section
variable{X:Cx}{K:W.Frag}
end
section
variable{X:Cx}{C N fI:Addr}{bm:List Value}{x:Str}{np cpos:Pos}{e:Expr}{es:List Expr}{t:TA}
end
section
variable{K:W.Frag}{C D N N':Addr}{bm bm':List Value}{ini WO:Option Value}{b:Bool}
end
open PySem PySem.Spec PyProof.Rows PySem.Builtin
section
variable{prog:Program}{w:World}{A:Around}{E:Value->Shared->Prop}{s:Shared}{α:Type}
end
end L2
set_option maxHeartbeats 4000000
namespace L2
open PySem PySem.Spec PyProof.Rows
section
variable{X:Cx}{tg:Expr}{ea:Addr}
end
section
variable{X:Cx}{elt tg iter:Expr}{ifs:List Expr}{scope:Scope}{pos:Pos}{N:List Str}{nv:Nat}{js:List Nat}{wi:TI}{g:TG}{tt:TT}{te:TE}
end
theorem R8{P:Program}{w:World}{X:Cx}:Passes (NV P w) X E0:=λ_ _ _ _ _ _ _ h=>by
 obtain⟨_,_,_,_,_,_,_,_,_,_,h⟩:=h
 exact h.elim
section
variable{X:Cx}{K:W.Frag}
end
section
variable{κ:Type}[DecidableEq κ]
theorem KV.length{kvs:List (κ×V)}{vs:List (κ×Value)}(r:KV kvs vs):kvs.length=vs.length:=Paired.length r
end
theorem R9{P:Program}{w:World}{k:Key}{u:Value}(r:RelV (kV k) u):(lG P w).is k u=true:=by
 cases k with
 |inl i=>obtain⟨t,e⟩:=(show ∃t,u=Value.int i t from r);subst e;exact CG P w i t
 |inr x=>obtain⟨t,e⟩:=(show ∃t,u=Value.str x t from r);subst e;exact CH P w x t
section
variable{P:Program}{w:World}{H:Hp}{h:Heap}{a:Addr}
end
section
variable{X:Cx}{pins:List (Addr×Obj)}{σ:St}{H:Hp}{s:Shared}{a:Addr}{y v:V}{u r:Value}{o:Option V}{A:Around}{E:Value->Shared->Prop}
end
section
variable{X:Cx}{pins:List (Addr×Obj)}{σ:St}{H:Hp}{s:Shared}{a:Addr}{kvs:List (Key×V)}{k:Key}{u:Value}{A:Around}{E:Value->Shared->Prop}
end
section
variable{X:Cx}{o i e value:Expr}{pos pos' tpos:Pos}{td ty tv:TE}
end
section
variable{X:Cx}{pos:Pos}
end
section
variable{X:Cx}{pins:List (Addr×Obj)}{σ:St}{H:Hp}{s:Shared}{a:Addr}{y d:V}{u r:Value}{o:Option V}{A:Around}{E:Value->Shared->Prop}
end
section
variable{X:Cx}{o e f:Expr}{apos cpos:Pos}{td ty tx:TE}
end
section
variable{X:Cx}{pins:List (Addr×Obj)}{σ:St}{H:Hp}{s:Shared}{a:Addr}{kvs:List (Key×V)}{A:Around}{E:Value->Shared->Prop}
end
section
variable{X:Cx}{pins:List (Addr×Obj)}{σ:St}{H:Hp}{s:Shared}{a:Addr}{y:V}{u:Value}{A:Around}{E:Value->Shared->Prop}
end
end L2
set_option maxHeartbeats 1000000
namespace L2
open PySem PySem.Spec PyProof.Rows
section
variable{X:Cx}
end
structure Ka(k:Nat)(A:Around):Prop where
 dp:A.depth+3*k+5<recursionLimit
 un:A.units+16*k+200<cLine
theorem dM.m{k:Nat}{A:Around}(r:dM k A):Ka k A:=⟨r.dp,r.un⟩
theorem Ka.hu{k:Nat}{A:Around}(r:Ka k A):A.units+1<cLine:=by have:=r.un;omega
section
variable{P:Program}{w:World}{K:W.Frag}{mg:Str->Option Value}{base:Heap}
end
section
variable{X:Cx}{k:Nat}{f:Addr}{fd:FuncData}{ps:List Str}{sp:Sp}{x:Str}{p pos:Pos}{e:Expr}{es:List Expr}{t:TA}
end
end L2
set_option maxHeartbeats 4000000
namespace L2
open PySem PySem.Spec PyProof.Rows
inductive zo(K:W.Frag)(H:Hp):V->V->Bool->Prop where
 |cmp {n:Nat}{x y:V}{b:Bool}:n<=50->qW K H n x y b->zo K H x y b
 |nl {a:Addr}{xs:List V}:aN K H a xs->zo K H .non (.ref a) false
 |ln {a:Addr}{xs:List V}:aN K H a xs->zo K H (.ref a) .non false
 |nt {a:Addr}{xs:List V}:bD K H a xs->zo K H .non (.ref a) false
 |tn {a:Addr}{xs:List V}:bD K H a xs->zo K H (.ref a) .non false
section
variable{X:Cx}{pins:List (Addr×Obj)}{σ:St}{H:Hp}{s:Shared}
theorem EC(I:Inv X pins σ H s){x y:V}{b:Bool}(h:zo X.K H x y b){A:Around}{u v:Value}(hu:A.units+50<cLine)(ru:RelV x u)(rv:RelV y v):SeqAt.EqAt A s u v b:=by
 cases h with
 |cmp hn h=>exact J5 I h 'b' ru rv
 |nl ha=>cases ru;cases rv;obtain⟨its,r1,p1,_⟩:=I.list ha;exact SeqAt.EqAt.none_list p1.isList 'b'
 |ln ha=>cases ru;cases rv;obtain⟨its,r1,p1,_⟩:=I.list ha;exact SeqAt.EqAt.list_none p1.isList 'b'
 |nt ha=>cases ru;cases rv;obtain⟨its,r1,p1,_⟩:=I.tuple ha;exact SeqAt.EqAt.none_tuple p1 'b'
 |tn ha=>cases ru;cases rv;obtain⟨its,r1,p1,_⟩:=I.tuple ha;exact SeqAt.EqAt.tuple_none p1 'b'
def Vp(f:V->Bool)(u:Value):Bool:=match Rp u with
 |some x=>f x
 |none=>false
theorem ED{f:V->Bool}{x:V}{u:Value}(r:RelV x u):Vp f u=f x:=by unfold Vp;rw[r.abs]
theorem Gj(I:Inv X pins σ H s){A:Around}{f:V->Bool}{y:V}{v:Value}(hu:A.units+50<cLine)(rv:RelV y v):∀{xs:List V}{us:List Value},Vals xs us->(∀z∈xs,zo X.K H z y (f z))->∀w∈us,SeqAt.EqAt A s w v (Vp f w)
 |_,_,.nil,_,w,hw=>by cases hw
 |x::xs,u::us,.cons r t,h,w,hw=>by
  rcases abt.mp hw with rfl|hw
  ·rw[ED r];exact EC I (h x (abl ..)) hu r rv
  ·exact Gj I hu rv t (λz hz=>h z (abp _ hz)) w hw
end
section
variable{X:Cx}
def NW(K:W.Frag):V->List V->Hp->VK->Prop:=λx vs H Q=>∃(p:Addr)(xs:List V)(y:V)(f:V->Bool)(j:Nat),x=.ref p/\vs=[y]/\aN K H p xs/\(∀z∈xs,zo K H z y (f z))/\j<1000000/\(∃z,xs[j]?=some z/\f z=true)/\(∀(i:Nat) z,i<j->xs[i]?=some z->f z=false)/\Q (.int (j:Nat)) H
theorem Mr(hu:X.A.units+64<cLine):L4 X "list.index" (NW X.K):=by
 intro pins s σ H x vs v us Q I rx rv h
 obtain⟨p,xs,y,f,j,rfl,rfl,hq,hc,hj,⟨z,hz,fz⟩,hno,q⟩:=h
 cases rx
 obtain⟨u,rfl,ru⟩:=rv.one
 obtain⟨its,r,pl,_⟩:=I.list hq
 obtain⟨⟨cls,dd,data,sl⟩,ho,hc2,n,hd⟩:=pl.isList
 simp only at hc2 hd
 subst hc2 hd
 obtain⟨w,hw,rw'⟩:=r.get hz
 have hjl:j<its.length:=(abd.mp hw).1
 refine call_meets F.slot_list_index ⟨_,ho,rfl⟩ F.entry_list_index (F.args_list_index_2 _ _) (SeqAt.list_indexAt p its.toArray n dd sl u (Vp f) j (by simpa using hjl) 'b' ?_ ?_) ⟨ho,λw hw=>Gj I (by show X.A.units+1+50<cLine;omega) ru r hc w (by simpa using hw),?_⟩
 ·have e:its.toArray[j]'(by simpa using hjl)=w:=by
   obtain⟨_,q⟩:=abd.mp hw
   simpa using q
  rw[e,ED rw',fz]
 ·intro m hm hmj
  have hml:m<its.length:=by simpa using hm
  obtain⟨x,hx⟩:∃x,xs[m]?=some x:=⟨_,abk (by rw[r.length];exact hml)⟩
  obtain⟨w2,Kc,r2⟩:=r.get hx
  have e:its.toArray[m]'hm=w2:=by
   obtain⟨_,q⟩:=abd.mp Kc
   simpa using q
  rw[e,ED r2,hno m x hmj hx]
 ·exact⟨.int _,H,I.tok _,⟨_,O⟩,q⟩
theorem Kd(K:W.Frag)(h:X.K=K)(hu:X.A.units+64<cLine):L4 X "list.index" (NW K):=by subst h;exact Mr hu
end
theorem C9{K:W.Frag}{a b:Addr}{xs ys:List V}{g:TG}{tt:TT}{te:TE}{Q:VK}{D:Addr}{τ:St}{H:Hp}(Pv:Nat->List V->St->Hp->Prop)(h0:Pv 0 [] τ (upd H D (.lst [])))(hl:∀i ws τ H,i<=min xs.length ys.length->Pv i ws τ H->aN K H a xs/\aN K H b ys/\H D=some (.lst ws))(hs:∀i x y t ws τ H,xs[i]?=some x->ys[i]?=some y->H t=none->Pv i ws τ H->g (.ref t) τ (upd H t (.tup [x,y])) λτ2 H2=>tt τ2 H2 λb H3=>if b=true then te τ2 H3 λv H4=>H4 D=some (.lst ws)/\ws.length<sizeLine/\Pv (i+1) (ws++[v]) τ2 (upd H4 D (.lst (ws++[v]))) else Pv (i+1) ws τ2 H3)(hd:∀ws τ H,Pv (min xs.length ys.length) ws τ H->Q (.ref D) H):vv (Vk K a b) g tt te Q D τ H:=by
 refine⟨λi m ws τ H=>m=min xs.length ys.length-i/\i<=min xs.length ys.length/\Pv i ws τ H,⟨min xs.length ys.length,by simp,abW _,h0⟩,?_⟩
 rintro i m ws τ H ⟨rfl,hi,p⟩
 obtain⟨q1,q2,hD⟩:=hl i ws τ H hi p
 refine⟨hD,?_⟩
 by_cases hlt:i<min xs.length ys.length
 ·have k1:i<xs.length:=by omega
  have k2:i<ys.length:=by omega
  refine .inr ⟨⟨xs,ys,xs[i],ys[i],q1,q2,by simp[k1],by simp[k2]⟩,Pv (i+1),λzs σ' H' p'=>⟨min xs.length ys.length-(i+1),by omega,rfl,hlt,p'⟩,λv H' y=>?_⟩
  obtain⟨t,x,y,ht,e1,e2,ex,ey⟩:=y
  subst e1 e2
  exact hs i x y t ws τ _ (ex xs q1) (ey ys q2) ht p
 ·have e:i=min xs.length ys.length:=by omega
  subst e
  exact .inl ⟨⟨xs,ys,q1,q2,rfl⟩,hd ws τ H p⟩
section
variable{prog:Program}{w:World}{A:Around}{E:Value->Shared->Prop}{s:Shared}
end
section
variable{prog:Program}{w:World}{A:Around}{E:Value->Shared->Prop}{s:Shared}
end
structure Az(prog:Program)(w:World)(K:Type)[DecidableEq K] where
 is:Heap->K->Value->Prop
 hash:K->Int
 draws:K->Nat
 AA:Nat
 inj:∀{h:Heap}{v:Value}{x y:K},is h x v->is h y v->x=y
 keeps:∀{h h':Heap}{k:K}{v:Value}{d:Addr}{o:Obj}{es ep},is h k v->h.get? d=some o->o.data=.dict es ep->Heap.SameBut d h h'->is h' k v
 pyHash:∀{A:Around}{E:Value->Shared->Prop}{s:Shared}{k:K}{v:Value}{Q:Int->Shared->Prop},A.units+AA<cLine->is s.heap k v->Q (hash k) {s with toks:=s.toks+draws k}->wpAny (model prog w) A (PySem.pyHash v) Q E s
 eq:∀{A:Around}{s:Shared}{x y:K}{u v:Value},A.units+AA<cLine->is s.heap x u->is s.heap y v->SeqAt.EqAt A s u v (decide (x=y))
 quiet:∀{A:Around}{E:Value->Shared->Prop}{s:Shared}{k:K}{v:Value}{Q:Bool->Shared->Prop}{n:Nat},AA<=n->is s.heap k v->Q true s->wpAny (model prog w) A (eqIsQuiet n v) Q E s
section
variable{prog:Program}{w:World}{K:Type}[DecidableEq K](V:Az prog w K)
def TupIs(h:Heap)(ks:List K)(a:Addr):Prop:=∃o items n,h.get? a=some o/\o.cls=.type "tuple"/\o.data=.seq items n/\Paired (λk v=>V.is h k v) ks items.toList
def Bg(ks:List K):Int:=reduceHash (Builtin.Tuple.tupleHashOf (ks.map V.hash))
variable{V}
theorem TupIs.ty{s:Shared}{ks:List K}{a:Addr}(x:TupIs V s.heap ks a):s.TypeIs (.ref a) "tuple":=by obtain⟨o,_,_,ho,hc,_⟩:=x;exact⟨o,ho,hc⟩
theorem xV{h:Heap}:∀{x y:List K}{vs:List Value},Paired (λk v=>V.is h k v) x vs->Paired (λk v=>V.is h k v) y vs->x=y
 |_,_,_,.nil,.nil=>rfl
 |_,_,_,.cons a r,.cons b q=>by rw[V.inj a b,xV r q]
theorem TupIs.inj{h:Heap}{a:Addr}{x y:List K}(hx:TupIs V h x a)(hy:TupIs V h y a):x=y:=by
 obtain⟨o,items,n,ho,_,hd,hi⟩:=hx
 obtain⟨o',items',n',ho',_,hd',hi'⟩:=hy
 rw[ho]at ho'
 cases ho'
 rw[hd]at hd'
 cases hd'
 exact xV hi hi'
theorem TupIs.keeps{h h':Heap}{ks:List K}{a d:Addr}{o:Obj}{es ep}(x:TupIs V h ks a)(ho:h.get? d=some o)(hd:o.data=.dict es ep)(hs:Heap.SameBut d h h'):TupIs V h' ks a:=by
 obtain⟨o',items,n,e1,e2,e3,e4⟩:=x
 have hne:a≠d:=λe=>by
  subst e
  rw[e1]at ho
  cases ho
  rw[hd]at e3;cases e3
 exact⟨o',items,n,(hs.2 a hne).trans e1,e2,e3,Paired.Jk e4 λk v q=>V.keeps q ho hd hs⟩
variable{A:Around}{E:Value->Shared->Prop}{s:Shared}
theorem Ke{ks:List K}{a:Addr}{Q:Int->Shared->Prop}(hu:A.units+(V.AA+1)<cLine)(hk:TupIs V s.heap ks a)(h:Q (Bg V ks) {s with toks:=s.toks+((ks.map V.draws).sum+1)}):wpAny (model prog w) A (pyHash (.ref a)) Q E s:=by
 have hT:=hk.ty
 have gg:A.units<cLine:=by omega
 obtain⟨o,items,n,ho,_,hd,hi⟩:=hk
 unfold pyHash
 first|unfold pyHashByItsType|skip
 first|refine abe (wpAny_cRoomFor_or (.inr gg) ?_)|skip
 refine abe (acF hT F.slot_tuple_hash.lookup ?_);show wpAny _ _ (if (some (Value.builtin "tuple.__hash__")==some Value.none)=true then _ else _) Q E s
 rw[abb (by rw[beq_builtin_none];exact abB)];refine abe (acF hT F.slot_tuple_hash.lookup ?_)
 show wpAny _ _ (callSpecialIfBoundUnlessNone? (.ref a) "__hash__" _ >>= _) Q E s;refine abe (wpAny_callSpecialIfBoundUnlessNone?_slot hT F.slot_tuple_hash (wpAny_call_entry F.slot_tuple_hash hT F.entry_tuple_hash ?_ (F.args_tuple_hash_1 _)))
 have hu1:A.in1.units+V.AA<cLine:=by show A.units+1+V.AA<cLine;omega
 show wpAny _ _ (Builtin.Tuple.tupleItemsOf (.ref a) >>= _) _ _ s
 refine abe (wpAny_tupleItemsOf ho hd (abe ?_))
 rw[←Array.forIn_toList]
 refine wpAny_forIn_list _ (λrest (b:Array Int) s'=>∃done left,ks=done++left/\Paired (λk v=>V.is s.heap k v) left rest/\b.toList=done.map V.hash/\s'={s with toks:=s.toks+(done.map V.draws).sum}) _ ?_ ?_ _ _ ⟨[],ks,rfl,hi,rfl,rfl⟩
 ·rintro x rest b s' ⟨done,left,rfl,hl,hb,rfl⟩
  cases hl with
  |@cons k _ ks' _ h1 hl' =>
   have fin:∃d l,done++k::ks'=d++l/\Paired (λk v=>V.is s.heap k v) l rest/\(b.push (V.hash k)).toList=d.map V.hash/\({s with toks:=s.toks+(done.map V.draws).sum+V.draws k}:Shared)={s with toks:=s.toks+(d.map V.draws).sum}:=⟨done++[k],ks',by simp,hl',by simp[hb],by simp[Nat.add_assoc]⟩
   refine abe (V.pyHash hu1 h1 ?_)
   first
    |exact abz fin
    |exact abe (abz (abz fin))
 ·rintro b s' ⟨done,left,rfl,hl,hb,rfl⟩
  cases hl
  rw[acq]at h
  show wpAny _ _ (retInt (Builtin.Tuple.tupleHashOf b.toList)) _ _ _
  rw[hb]
  refine wpAny_ret_mkInt ?_
  generalize hz:Builtin.Tuple.tupleHashOf (done.map V.hash)=z
  unfold Bg reduceHash at h
  rw[hz]at h
  show wpAny _ _ (if (decide (-(2:Int) ^ 63<=z)&&decide (z<2 ^ 63))=true then _ else _) Q E _
  by_cases hr:(decide (-(2:Int) ^ 63<=z)&&decide (z<2 ^ 63))=true
  ·rw[abj hr]at h⊢
   exact abz (by simpa [Nat.add_assoc]using h)
  ·rw[abb hr]at h⊢
   exact abe (wpAny_rule (abz (by simpa [Nat.add_assoc]using h)))
theorem EE{x y:List K}:((List.range (min x.length y.length)).all (λj=>decide (x[j]?=y[j]?))&&x.length==y.length)=decide (x=y):=by
 rw[abS,Bool.and_eq_true,abK,abU,beq_iff_eq]
 constructor
 ·rintro⟨q,hl⟩
  refine List.ext_getElem? λi=>?_
  by_cases hi:i<x.length
  ·exact abT (q i (acJ.mpr 'b'))
  ·rw[acm 'b',acm 'b']
 ·rintro rfl
  exact⟨λi _=>abo rfl,O⟩
theorem qt{F:K->Value->Prop}:∀{ks:List K}{vs:List Value},Paired F ks vs->∀(j:Nat) v,vs[j]?=some v->∃k,ks[j]?=some k/\F k v
 |_,_,.nil,j,v,h=>by simp at h
 |_,_,.cons a r,0,v,h=>by cases h;exact⟨_,rfl,a⟩
 |_,_,.cons a r,j+1,v,h=>by
  rw[List.getElem?_cons_succ]at h
  obtain⟨k,e,q⟩:=qt r j v h
  exact⟨k,by rw[List.getElem?_cons_succ];exact e,q⟩
theorem O2{x y:List K}{a b:Addr}(hu:A.units+(V.AA+1)<cLine)(hx:TupIs V s.heap x a)(hy:TupIs V s.heap y b):SeqAt.EqAt A s (.ref a) (.ref b) (decide (x=y)):=by
 by_cases e:a=b
 ·subst e
  rw[abo (hx.inj hy)]
  exact acE _
 ·obtain⟨o,items,n,h1,h2,h3,h4⟩:=hx
  obtain⟨o',items',n',h1',h2',h3',h4'⟩:=hy
  have l1:x.length=items.size:=by rw[Paired.length h4,abA]
  have l2:y.length=items'.size:=by rw[Paired.length h4',abA]
  refine acC e ?_
  rw[←EE,l1,l2]
  refine SeqAt.RcAt.tuples ⟨o,h1,h2,n,h3⟩ ⟨o',h1',h2',n',h3'⟩ 'b' λj j1 j2=>?_
  obtain⟨k,ek,hk⟩:=qt h4 j items[j] (by simp[j1])
  obtain⟨k',ek',hk'⟩:=qt h4' j items'[j] (by simp[j2])
  rw[ek,ek',show decide (some k=some k')=decide (k=k') by simp]
  exact V.eq (by show A.units+1+V.AA<cLine;omega) hk hk'
theorem HH{ks:List K}{a:Addr}{Q:Bool->Shared->Prop}{n:Nat}(hn:V.AA+1<=n)(hk:TupIs V s.heap ks a)(h:Q true s):wpAny (model prog w) A (eqIsQuiet n (.ref a)) Q E s:=by
 have hT:=hk.ty
 obtain⟨o,items,m,ho,_,hd,hi⟩:=hk
 obtain⟨n,rfl⟩:∃n',n=n'+1:=⟨n-1,by omega⟩
 unfold eqIsQuiet
 refine abe (acF hT F.slot_tuple_eq.lookup ?_);show wpAny _ _ (isInstance (.ref a) (.type "tuple") >>= _) _ _ s
 refine abe (wpAny_isInstance hT isSubtype_tuple_tuple ?_)
 simp only[Bool.not_true,ab4,acH]
 refine abe (acA ho hd (abe ?_))
 show wpAny _ _ (forIn items _ _) _ _ s
 rw[←Array.forIn_toList]
 refine wpAny_forIn_list _ (λrest r s'=>r.1=none/\s'=s/\∃l,Paired (λk v=>V.is s.heap k v) l rest) _ ?_ ?_ _ _ ⟨rfl,rfl,ks,hi⟩
 ·rintro v rest r s' ⟨hr,rfl,l,hl⟩
  cases hl with
  |@cons k _ ks' _ h1 hl' =>
   refine abe (V.quiet 'b' h1 ?_)
   simp only[Bool.not_true,ab4,acH]
   exact abz ⟨rfl,rfl,ks',hl'⟩
 ·rintro⟨r1,r2⟩ s' ⟨hr,rfl,_⟩
  simp only at hr
  subst hr
  exact abz h
end
abbrev Lf:=Option Key
def Dc:Lf->Value->Prop
 |none,v=>v=.none
 |some k,v=>vh k v=true
section
variable{prog:Program}{w:World}{A:Around}{E:Value->Shared->Prop}{s:Shared}
theorem HJ{Q:Int->Shared->Prop}(hu:A.units<cLine)(h:Q 4238894112 {s with toks:=s.toks+1}):wpAny (model prog w) A (pyHash .none) Q E s:=by
 have hT:s.TypeIs .none "NoneType":=rfl
 unfold pyHash
 first|unfold pyHashByItsType|skip
 first|refine abe (wpAny_cRoomFor_or (.inr hu) ?_)|skip
 refine abe (acF hT F.slot_NoneType_hash.lookup ?_)
 show wpAny _ _ (if (some (Value.builtin "NoneType.__hash__")==some Value.none)=true then _ else _) Q E s
 rw[abb (by rw[beq_builtin_none];exact abB)];refine abe (acF hT F.slot_NoneType_hash.lookup ?_)
 show wpAny _ _ (callSpecialIfBoundUnlessNone? .none "__hash__" _ >>= _) Q E s
 refine abe (wpAny_callSpecialIfBoundUnlessNone?_slot hT F.slot_NoneType_hash (wpAny_call_entry F.slot_NoneType_hash hT F.entry_NoneType_hash ?_ (F.args_NoneType_hash_1 _)))
 show wpAny _ _ (retInt 4238894112) _ _ _
 refine wpAny_ret_mkInt ?_
 show wpAny _ _ (if (decide (-(2:Int) ^ 63<=4238894112)&&decide ((4238894112:Int)<2 ^ 63))=true then _ else _) Q E _
 rw[abj 'c']
 exact abz h
theorem kr{k:Key}{v:Value}(h:vh k v=true):(∃i t,k=.inl i/\v=.int i t)\/∃z t,k=.inr z/\v=.str z t:=cO h
theorem Kf(prog:Program)(w:World){v:Value}{x y:Lf}(hx:Dc x v)(hy:Dc y v):x=y:=by
 cases x with
 |none =>
  cases y with
  |none=>rfl
  |some k=>rcases kr hy with ⟨i,t,rfl,e⟩|⟨z,t,rfl,e⟩<;>(rw[show v=.none from hx]at e;cases e)
 |some k =>
  cases y with
  |none=>rcases kr hx with ⟨i,t,rfl,e⟩|⟨z,t,rfl,e⟩<;>(rw[show v=.none from hy]at e;cases e)
  |some k'=>rw[(lG prog w).inj v k k' hx hy]
theorem NX{x y:Lf}{u v:Value}(hx:Dc x u)(hy:Dc y v):SeqAt.EqAt A s u v (decide (x=y)):=by
 cases x with
 |none =>
  have hx:u=.none:=hx
  subst hx
  cases y with
  |none =>
   have hy:v=.none:=hy
   subst hy
   rw[abo rfl];exact acE _
  |some k =>
   rw[abn (by simp)]
   rcases kr hy with ⟨i,t,rfl,rfl⟩|⟨z,t,rfl,rfl⟩
   ·exact SeqAt.EqAt.none_int _ _
   ·exact SeqAt.EqAt.none_str _ _
 |some k =>
  cases y with
  |none =>
   have hy:v=.none:=hy
   subst hy
   rw[abn (by simp)]
   rcases kr hx with ⟨i,t,rfl,rfl⟩|⟨z,t,rfl,rfl⟩
   ·exact SeqAt.EqAt.int_none _ _
   ·exact SeqAt.EqAt.str_none _ _
  |some k' =>
   rw[show decide (some k=some k')=decide (k=k') by simp]
   rcases kr hx with ⟨i,t,rfl,rfl⟩|⟨z,t,rfl,rfl⟩<;>rcases kr hy with ⟨i',t',rfl,rfl⟩|⟨z',t',rfl,rfl⟩
   ·rw[Jg];exact SeqAt.EqAt.int_int _ _ _ _
   ·rw[Ji];exact SeqAt.EqAt.int_str _ _ _ _
   ·rw[Jj];exact SeqAt.EqAt.str_int _ _ _ _
   ·rw[Jh,show decide (z=z')=(z==z') by rw[abS,abU,beq_iff_eq]];exact SeqAt.EqAt.str_str _ _ _ _
theorem EF{x:Lf}{v:Value}(h:Dc x v):carriedByValue v=true:=by
 cases x with
 |none=>rw[show v=.none from h];rfl
 |some k=>rcases kr h with ⟨i,t,rfl,rfl⟩|⟨z,t,rfl,rfl⟩<;>rfl
end
def Kg(w:World):Lf->Int
 |none=>4238894112
 |some k=>Rh w k
def Dd(prog:Program)(w:World):Az prog w Lf where
 is:=λ_ k v=>Dc k v
 hash:=Kg w
 draws:=λ_=>1
 AA:=0
 inj:=λhx hy=>Kf prog w hx hy
 keeps:=λh _ _ _=>h
 pyHash:=λ{A E s k v Q} hu h q=>by
  cases k with
  |none =>
   have h:v=.none:=h
   subst h
   exact HJ hu q
  |some k=>exact(lG prog w).pyHash h q
 eq:=λ_ hx hy=>NX hx hy
 quiet:=λ{A E s k v Q n} _ h q=>by rw[eqIsQuiet_byValue n (EF h)];exact abz q
section
variable{prog:Program}{w:World}{K:Type}[DecidableEq K](V:Az prog w K)
def O3(h:Heap):Lf⊕List K->Value->Prop
 | .inl k,v=>Dc k v
 | .inr ks,v=>∃a,v=.ref a/\TupIs V h ks a
def O4:Lf⊕List K->Int
 | .inl k=>Kg w k
 | .inr ks=>Bg V ks
def Ms:Lf⊕List K->Nat
 | .inl _=>1
 | .inr ks=>(ks.map V.draws).sum+1
variable{V}
theorem Kh{k:Lf}{a:Addr}(h:Dc k (.ref a)):False:=by
 cases k with
 |none=>cases(show Value.ref a=.none from h)
 |some k=>rcases kr h with ⟨i,t,rfl,e⟩|⟨z,t,rfl,e⟩<;>cases e
theorem Sa{A:Around}{s:Shared}{x y:Lf⊕List K}{u v:Value}(hu:A.units+(V.AA+1)<cLine)(hx:O3 V s.heap x u)(hy:O3 V s.heap y v):SeqAt.EqAt A s u v (decide (x=y)):=by
 cases x with
 |inl k =>
  cases y with
  |inl k' =>
   rw[show decide ((Sum.inl k:Lf⊕List K)=.inl k')=decide (k=k') by simp]
   exact NX hx hy
  |inr ks =>
   obtain⟨a,rfl,o,items,n,h1,h2,h3,h4⟩:=hy
   rw[abn (λq=>nomatch q)]
   cases k with
   |none =>
    have hx:u=.none:=hx
    subst hx
    exact SeqAt.EqAt.none_tuple ⟨o,h1,h2,n,h3⟩ 'b'
   |some k =>
    rcases kr hx with ⟨i,t,rfl,rfl⟩|⟨z,t,rfl,rfl⟩
    ·exact SeqAt.EqAt.int_tuple _ _ ⟨o,h1,h2,n,h3⟩ 'b'
    ·exact SeqAt.EqAt.str_tuple _ _ ⟨o,h1,h2,n,h3⟩ 'b'
 |inr ks =>
  obtain⟨a,rfl,hxa⟩:=hx
  cases y with
  |inl k' =>
   obtain⟨o,items,n,h1,h2,h3,h4⟩:=hxa
   rw[abn (λq=>nomatch q)]
   cases k' with
   |none =>
    have hy:v=.none:=hy
    subst hy
    exact SeqAt.EqAt.tuple_none ⟨o,h1,h2,n,h3⟩ 'b'
   |some k =>
    rcases kr hy with ⟨i,t,rfl,rfl⟩|⟨z,t,rfl,rfl⟩
    ·exact SeqAt.EqAt.tuple_int _ _ ⟨o,h1,h2,n,h3⟩ 'b'
    ·exact SeqAt.EqAt.tuple_str _ _ ⟨o,h1,h2,n,h3⟩ 'b'
  |inr ks' =>
   obtain⟨b,rfl,WQ⟩:=hy
   rw[show decide ((Sum.inr ks:Lf⊕List K)=.inr ks')=decide (ks=ks') by simp]
   exact O2 hu hxa WQ
def stepK(V:Az prog w K):Az prog w (Lf⊕List K) where
 is:=O3 V
 hash:=O4 V
 draws:=Ms V
 AA:=V.AA+1
 inj:=λ{h v x y} hx hy=>by
  cases x with
  |inl k =>
   cases y with
   |inl k'=>rw[Kf prog w hx hy]
   |inr ks=>obtain⟨a,rfl,_⟩:=hy;exact(Kh hx).elim
  |inr ks =>
   obtain⟨a,rfl,hxa⟩:=hx
   cases y with
   |inl k'=>exact(Kh hy).elim
   |inr ks'=>obtain⟨b,e,WQ⟩:=hy;cases e;rw[hxa.inj WQ]
 keeps:=λ{h h' k v d o es ep} hx ho hd hs=>by
  cases k with
  |inl k=>exact hx
  |inr ks=>obtain⟨a,rfl,hxa⟩:=hx;exact⟨a,rfl,hxa.keeps ho hd hs⟩
 pyHash:=λ{A E s k v Q} hu hx q=>by
  cases k with
  |inl k=>exact(Dd prog w).pyHash (by show A.units+0<cLine;omega) hx q
  |inr ks=>obtain⟨a,rfl,hxa⟩:=hx;exact Ke hu hxa q
 eq:=λhu hx hy=>Sa hu hx hy
 quiet:=λ{A E s k v Q n} hn hx q=>by
  cases k with
  |inl k=>exact(Dd prog w).quiet (abW _) hx q
  |inr ks=>obtain⟨a,rfl,hxa⟩:=hx;exact HH hn hxa q
end
def lfV:Lf->V
 |none=>.non
 |some k=>kV k
theorem vA{α β γ:Type}{F:α->β->Prop}{G:β->γ->Prop}:∀{xs:List α}{ys:List β}{zs:List γ},Paired F xs ys->Paired G ys zs->Paired (λa c=>∃b,F a b/\G b c) xs zs
 |_,_,_,.nil,.nil=>.nil
 |_,_,_,.cons a r,.cons b q=>.cons ⟨_,a,b⟩ (vA r q)
section
variable{P:Program}{w:World}{K:Type}[DecidableEq K]
structure LC(F:W.Frag)(Z:Az P w K) where
 on:Hp->K->V->Prop
 ok:∀{X:Cx}{pins:List (Addr×Obj)}{σ:St}{H:Hp}{s:Shared}{k:K}{v:V}{u:Value},X.K=F->Inv X pins σ H s->RelV v u->on H k v->Z.is s.heap k u
 keep:∀{H H':Hp}{k:K}{v:V},(∀b xs,bD F H b xs->bD F H' b xs)->on H k v->on H' k v
def QV{F:W.Frag}{Z:Az P w K}(Y:LC F Z)(H:Hp)(ks:List K)(b:Addr):Prop:=∃vs,bD F H b vs/\Paired (λk v=>Y.on H k v) ks vs
variable{F:W.Frag}{Z:Az P w K}{Y:LC F Z}{H H':Hp}{ks:List K}{b:Addr}
theorem QV.is{X:Cx}{pins:List (Addr×Obj)}{σ:St}{s:Shared}(hF:X.K=F)(I:Inv X pins σ H s)(e:QV Y H ks b):TupIs Z s.heap ks b:=by
 obtain⟨vs,e,r⟩:=e
 obtain⟨its,rv,⟨o,h1,h2,n,h3⟩,_⟩:=I.tuple (by rw[hF];exact e)
 exact⟨o,its.toArray,n,h1,h2,h3,by simpa using Paired.Jk (vA r rv) (λk u ⟨v,a,c⟩=>Y.ok hF I c a)⟩
theorem QV.keep(t:∀b xs,bD F H b xs->bD F H' b xs)(e:QV Y H ks b):QV Y H' ks b:=by
 obtain⟨vs,e,r⟩:=e
 exact⟨vs,t _ _ e,Paired.Jk r λk v q=>Y.keep t q⟩
end
def NY(P:Program)(w:World)(F:W.Frag):LC F (Dd P w) where
 on:=λ_ k v=>v=lfV k
 ok:=λ{X pins σ H s k v u} _ _ r e=>by
  subst e
  cases k with
  |none=>cases r;rfl
  |some k=>exact R9 (P:=P) (w:=w) r
 keep:=λ_ e=>e
section
variable{P:Program}{w:World}{K:Type}[DecidableEq K]
def WR{F:W.Frag}{Z:Az P w K}(Y:LC F Z)(H:Hp):Lf⊕List K->V->Prop
 | .inl k,v=>v=lfV k
 | .inr ks,v=>∃b,v=.ref b/\QV Y H ks b
def Kl{F:W.Frag}{Z:Az P w K}(Y:LC F Z):LC F (stepK Z) where
 on:=WR Y
 ok:=λ{X pins σ H s k v u} hF I r e=>by
  cases k with
  |inl k=>exact(NY P w F).ok hF I r e
  |inr ks =>
   obtain⟨b,rfl,e⟩:=e
   cases r
   exact⟨b,O,e.is hF I⟩
 keep:=λ{H H' k v} t e=>by
  cases k with
  |inl k=>exact e
  |inr ks=>obtain⟨b,rfl,e⟩:=e;exact⟨b,rfl,e.keep t⟩
abbrev N3(K:Type):=List K×Addr×V
variable{F:W.Frag}{Z:Az P w K}{Y:LC F Z}{hl:Z.AA+1<=8}{H H':Hp}{h:Heap}{a b:Addr}{kvs:List (N3 K)}
end
section
variable{X:Cx}{K:Type}[DecidableEq K]{F:W.Frag}{Z:Az X.prog X.w K}{Y:LC F Z}{hl:Z.AA+1<=8}{pins:List (Addr×Obj)}{σ:St}{H:Hp}{s:Shared}{a b:Addr}{kvs:List (N3 K)}{k:List K}{v:V}{r:Value}{A:Around}{E:Value->Shared->Prop}
variable{o i value kx:Expr}{pos pos':Pos}{td ty tv:TE}
end
section
variable{X:Cx}{K:Type}[DecidableEq K]{F:W.Frag}{Z:Az X.prog X.w K}
end
abbrev ZM(P:Program)(w:World):=stepK (Dd P w)
abbrev YM(P:Program)(w:World)(F:W.Frag):LC F (ZM P w):=Kl (NY P w F)
theorem hn0{A:Around}{P:Program}{w:World}(h:A.units+64<cLine):A.units+((Dd P w).AA+1)<cLine:=by show A.units+1<cLine;omega
theorem hn2{A:Around}{P:Program}{w:World}(h:A.units+64<cLine):A.units+1+((ZM P w).AA+1)<cLine:=by show A.units+1+2<cLine;omega
section
variable{P:Program}{w:World}{F:W.Frag}{H:Hp}
end
section
variable{X:Cx}{P:Program}{w:World}{K:Type}[DecidableEq K]{F:W.Frag}{Z:Az P w K}{o i value kx:Expr}{pos pos':Pos}{td ty tv tk:TE}
end
section
variable{X:Cx}
end
section
variable{X:Cx}{K:Type}[DecidableEq K]{F:W.Frag}{Z:Az X.prog X.w K}
end
section
variable{prog:Program}{w:World}{A:Around}{E:Value->Shared->Prop}{s:Shared}
end
section
variable{X:Cx}{e:Expr}
end
section
variable{prog:Program}{w:World}{A:Around}{E:Value->Shared->Prop}{s:Shared}{d it i ep:Nat}{od:Obj}{es:Array DictEntry}
end
section
variable{P:Program}{w:World}{K:Type}[DecidableEq K]
variable{Z:Az P w K}{hl:Z.AA+1<=8}
end
section
variable{X:Cx}{K:Type}[DecidableEq K]{F:W.Frag}{Z:Az X.prog X.w K}
end
def Sb(K:W.Frag):List V->Hp->VK->Prop:=λxs H Q=>∃(p:Addr)(ns:List Nat),xs=[.ref p]/\aN K H p (ns.map λn:Nat=>V.int n)/\ns≠[]/\∀n:Nat,n∈ns->(∀m∈ns,m<=n)->Q (.int n) H
theorem HK{X:Cx}(hc:X.calm=true):fk X (.builtin "max") (Sb X.K):=by
 intro pins s σ H xs us Q I r h
 obtain⟨p,ns,rfl,hq,hne,q⟩:=h
 obtain⟨u,rfl,ru⟩:=vals1 r
 cases ru
 obtain⟨its,rv,pl,hz⟩:=I.list hq
 have hlen:=rv.length
 rw[aa9]at hlen
 have hpl:p<s.heap.objs.size:=by obtain⟨o,ho,_⟩:=pl.isList;exact abu ho
 have hpos:=abX.mpr hne
 refine call_max_walk (wpAny_pyIter_list pl.isList ⟨s.heap.objs.size,_,_,_,_,_,λi j=>decide (((ns.getD i 0:Nat):Int)>((ns.getD j 0:Nat):Int)),rfl,Walks.list (A:=X.A.in1) (show X.A.in1.handled=none from I.ok.hd hc) s.heap.objs.size p (abP hpl) its.toArray,⟨⟨_,abC _ rfl,rfl,rfl⟩,pl.isList.at λo e=>abm _ e⟩,?_,?_,?_,?_⟩)
 ·intro b hb
  have e:b=s.heap.objs.size\/b=p:=by simpa using hb
  show b<(s.heap.push _).objs.size
  rw[ab5]
  rcases e with rfl|rfl
  ·exact Nat.lt_succ_self _
  ·exact Nat.lt_succ_of_lt hpl
 ·simp;omega
 ·exact CmpOf.ints_gt (λi=>((ns.getD i 0:Nat):Int)) λi v hv=>lJ rv (by simpa using hv)
 ·intro v h' tk hv hk
  have f0:=I.wm (abh s.heap.objs.size) (I.hok.fresh (abh _))
  have I2:Inv X pins σ H {s with heap:=s.heap.push {cls:=.type "list_iterator",data:=.fields #[.ref p,rawInt 0]}}:=I.kept (t':=s.toks) λb o e=>abm _ e
  have I3:=I2.turned (h':=h') (t':=tk) (it:=s.heap.objs.size) (λb o hb e=>hk b o (by simpa using hb) e) f0.1 f0.2.1 f0.2.2.2.1 f0.2.2.2.2.1 f0.2.2.2.2.2
  obtain⟨h1,h2⟩:=argBest_gt (λi=>((ns.getD i 0:Nat):Int)) (its.toArray.size-1)
  rw[abg]at h1 h2
  rw[abg]at hv
  generalize argBest (λi j=>decide (((ns.getD i 0:Nat):Int)>((ns.getD j 0:Nat):Int))) (its.length-1)=b at h1 h2 hv
  obtain⟨t,rfl⟩:=lJ rv (i:=b) (by rw[←hv];simp)
  have hb:b<ns.length:=by omega
  refine⟨.int (ns.getD b 0:Nat),H,I3,⟨t,O⟩,q _ ?_ λm hm=>?_⟩
  ·rw[abV,abk hb];exact acM hb
  ·obtain⟨j,hj,rfl⟩:=List.getElem_of_mem hm
   have:=h2 j 'b'
   have e:ns.getD j 0=ns[j]:=by rw[abV,abk hj];rfl
   rw[e]at this
   omega
theorem AB{X:Cx}(K:W.Frag)(h:X.K=K)(hc:X.calm=true):fk X (.builtin "max") (Sb K):=by subst h;exact HK hc
end L2
set_option synthInstance.maxSize 100000
set_option synthInstance.maxHeartbeats 400000
namespace L2
open PySem PySem.Spec PyProof.Rows
section
variable{X:Cx}{K:Type}[DecidableEq K]{F:W.Frag}{Z:Az X.prog X.w K}
end
abbrev ZP(P:Program)(w:World):=stepK (stepK (ZM P w))
abbrev YP(P:Program)(w:World)(F:W.Frag):LC F (ZP P w):=Kl (Kl (YM P w F))
theorem hp1{A:Around}{P:Program}{w:World}(h:A.units+64<cLine):A.units+((ZP P w).AA+1)<cLine:=by show A.units+4<cLine;omega
theorem hp2{A:Around}{P:Program}{w:World}(h:A.units+64<cLine):A.units+1+((ZP P w).AA+1)<cLine:=by show A.units+1+4<cLine;omega
section
variable{P:Program}{w:World}{F:W.Frag}{H:Hp}
end
section
variable{prog:Program}{w:World}{A:Around}{E:Value->Shared->Prop}{s:Shared}{d ep:Nat}{od:Obj}{es:Array DictEntry}
end
section
variable{X:Cx}{P:Program}{w:World}{K:Type}[DecidableEq K]{F:W.Frag}{Z:Az P w K}
end
section
variable{prog:Program}{w:World}{A:Around}{E:Value->Shared->Prop}{s:Shared}{d ep:Nat}{od:Obj}{es:Array DictEntry}
end
section
variable{prog:Program}{w:World}{A:Around}{E:Value->Shared->Prop}{s:Shared}{d ep:Nat}{od:Obj}{es:Array DictEntry}
end
section
variable{X:Cx}{P:Program}{w:World}{K:Type}[DecidableEq K]{F:W.Frag}{Z:Az P w K}
end
theorem vB:∀{us:List Value}{ns:List Int},IntsAre us ns->Vals (ns.map V.int) us
 |_,_,.nil=>.nil
 |_,_,.cons x t h=>.cons ⟨_,rfl⟩ (vB h)
def O5(K:W.Frag):List V->Hp->VK->Prop:=λxs H Q=>∃(l:Addr)(ns:List Int),xs=[.ref l]/\aN K H l (ns.map V.int)/\ns.length<64/\∀ns':List Int,ns'.Perm ns->ns'.Pairwise (·<=·)->∀m,H m=none->Q (.ref m) (upd H m (.lst (ns'.map V.int)))
theorem Bh{X:Cx}(K:W.Frag)(hK:X.K=K):fk X (.builtin "sorted") (O5 K):=by
 subst hK
 intro pins s σ H xs us Q I r h
 obtain⟨l,ns,rfl,hq,h64,q⟩:=h
 obtain⟨u,rfl,ru⟩:=vals1 r
 cases(show u=Value.ref l from ru)
 obtain⟨its,r1,pl,_⟩:=I.list hq
 have hl:its.length=ns.length:=by rw[←r1.length,aa9]
 refine sorted_ints pl.isList (intsAre_of r1) 'b' λout ns' h1 h2 h3=>?_
 obtain⟨e,he⟩:=sortedAll_at s.heap its out
 have hz:(ns'.map V.int).length<=sizeLine:=by
  rw[aa9,h2.length_eq]
  exact abv (acK h64) 'c'
 exact⟨.ref (s.heap.objs.size+1),_,I.laid (t':=s.toks) (o:=.lst (ns'.map V.int)) (λb o e=>sortedAll_old e) (Nat.le_succ _) ⟨hz,out.toList,e,vB h1,he⟩,rfl,q ns' h2 h3 _ (I.hok.fresh (Nat.le_succ _))⟩
def HL(ta:TA):TE:=λσ H Q=>ta σ H λvs H1=>∃j:Int,vs=[.int j]/\0<=j/\j<=100000/\∀l,H1 l=none->Q (.ref l) (upd H1 l (.lst (HA 0 j.toNat)))
theorem vC{X:Cx}{b:Expr}{p1 p2 pos1 pos2:Pos}{ta:TA}(hc:X.calm=true)(hg:Gl X "list")(hm:X.mg "list"=none)(RW:Gl X "range")(hm2:X.mg "range"=none)(ha:PA X [b] ta)(h1:starEach [.Call (.Name "range" p2) [b] [] pos2] X.env=[(false,eval (.Call (.Name "range" p2) [b] [] pos2) X.env)]:=by rfl)(hs2:starEach [b] X.env=[(false,eval b X.env)]:=by rfl):PE X (.Call (.Name "list" p1) [.Call (.Name "range" p2) [b] [] pos2] [] pos1) (HL ta):=by
 intro pins s σ H Q I h
 refine acj (ko I hg hm boot_list ?_ 'c' 'c')
 refine ab1 ?_ h1 rfl
 rw[h1]
 show wpAny _ _ (spliced [(false,eval (.Call (.Name "range" p2) [b] [] pos2) X.env)]) _ _ s
 refine Calls.spliced_cons ?_
 refine Call_ (ko I RW hm2 boot_range (ab1 (dJ (ha pos2 pins s σ H _ I h) λus s1 ⟨vs,H1,I1,r1,q1⟩=>?_) hs2 rfl))
 obtain⟨j,rfl,b1,b2,q⟩:=q1
 obtain⟨u1,rfl,rr⟩:=vals1 r1
 obtain⟨t2,e⟩:=(show ∃t,u1=Value.int j t from rr)
 subst e
 refine call_range_1 ?_
 refine Calls.spliced_nil ?_
 have hn:Builtin.Range.rangeSize 0 j 1=(j.toNat:Nat):=by rw[rangeSize_one];split<;>omega
 refine call_list_range (n:=j.toNat) (I.ok.hd hc) (IsRange.new ..) (small_one 'c' 'c' 'b' 'b') hn (abv (show j.toNat<=100000 by omega) 'c') λh' tk acc' c' hk hS hacc=>?_
 have hv:=HB hacc
 have hle:s1.heap.objs.size<=(s1.heap.push {cls:=.type "range",data:=.fields #[.int 0 s1.toks,.int j t2,.int 1 (s1.toks+1)]}).objs.size:=by rw[ab5];exact Nat.le_succ _
 refine⟨.ref _,_,I1.laid (t':=tk) (o:=.lst (HA 0 j.toNat)) (λb u e=>hk b u (abm _ e)) hle ⟨?_,acc'.toList,c',hv,?_⟩,rfl,q _ (I1.hok.fresh hle)⟩
 ·unfold HA
  rw[aa9,List.length_range]
  exact abv (show j.toNat<=100000 by omega) 'c'
 ·rw[hS]
inductive TopE(K:W.Frag)(H:Hp):V->V->Bool->Prop where
 |lst {a b:Addr}{xs ys:List V}{e:Nat->Bool}:aN K H a xs->aN K H b ys->xs.length=ys.length->(∀(j:Nat) x y,xs[j]?=some x->ys[j]?=some y->zo K H x y (e j))->TopE K H (.ref a) (.ref b) ((List.range xs.length).all e)
 |len {a b:Addr}{xs ys:List V}:aN K H a xs->aN K H b ys->xs.length≠ys.length->TopE K H (.ref a) (.ref b) false
 |nn:TopE K H .non .non true
 |nl {b:Addr}{ys:List V}:aN K H b ys->TopE K H .non (.ref b) false
 |ln {a:Addr}{xs:List V}:aN K H a xs->TopE K H (.ref a) .non false
def WS(K:W.Frag):R2:=λx y H Q=>∃b,TopE K H x y b/\Q (.bl b) H
def WT(K:W.Frag):R2:=λx y H Q=>∃b,TopE K H x y b/\Q (.bl (!b)) H
section
variable{X:Cx}
theorem O6(K:W.Frag)(hK:X.K=K)(hu:X.A.units+64<cLine):oY X (compareOp .Eq) (WS K):=by
 subst hK
 intro pins s σ H x y v u Q I rx ry h
 obtain⟨b,hk,q⟩:=h
 cases hk with
 |@lst a b xs ys e ha hb hl hs =>
  cases rx;cases ry
  obtain⟨its,r1,p1,_⟩:=I.list ha
  obtain⟨its2,r2,p2,_⟩:=I.list hb
  refine SeqAt.eq_listAt (e:=e) p1.isList p2.isList (by rw[abg,abg,←r1.length,←r2.length,hl]) 'b' (λj h1 h2=>oO r1 r2 (λj x y u w ex ey ru rw'=>EC I (hs j x y ex ey) (by show X.A.units+1+50<cLine;omega) ru rw') j h1 h2) ⟨.bl _,H,I,?_,q⟩
  show Value.bool _=Value.bool _
  rw[abg,←r1.length]
 |@len a b xs ys ha hb hl =>
  cases rx;cases ry
  obtain⟨its,r1,p1,_⟩:=I.list ha
  obtain⟨its2,r2,p2,_⟩:=I.list hb
  show wpAny _ _ (richCompare .Eq (.ref a) (.ref b)) _ _ _
  exact SeqAt.RcAt.lists_lengths p1.isList p2.isList (by rw[abg,abg,←r1.length,←r2.length];simpa using hl) 'b' _ _ _ _ ⟨.bl false,H,I,rfl,q⟩
 |nn=>exact aU pins s σ H _ _ v u Q I rx ry ⟨rfl,q⟩
 |nl hb =>
  cases rx;cases ry
  obtain⟨its,r1,p1,_⟩:=I.list hb
  show wpAny _ _ (richCompare .Eq _ _) _ _ _
  exact SeqAt.RcAt.none_list p1.isList 'b' _ _ _ _ ⟨.bl false,H,I,rfl,q⟩
 |ln ha =>
  cases rx;cases ry
  obtain⟨its,r1,p1,_⟩:=I.list ha
  show wpAny _ _ (richCompare .Eq _ _) _ _ _
  exact SeqAt.RcAt.list_none p1.isList 'b' _ _ _ _ ⟨.bl false,H,I,rfl,q⟩
theorem Km(K:W.Frag)(hK:X.K=K)(hu:X.A.units+64<cLine):oY X (compareOp .NotEq) (WT K):=by
 subst hK
 intro pins s σ H x y v u Q I rx ry h
 obtain⟨b,hk,q⟩:=h
 cases hk with
 |@lst a b xs ys e ha hb hl hs =>
  cases rx;cases ry
  obtain⟨its,r1,p1,_⟩:=I.list ha
  obtain⟨its2,r2,p2,_⟩:=I.list hb
  show wpAny _ _ (richCompare .NotEq (.ref a) (.ref b)) _ _ _
  refine SeqAt.RcNeAt.lists (e:=e) p1.isList p2.isList (by rw[abg,abg,←r1.length,←r2.length,hl]) 'b' (λj h1 h2=>oO r1 r2 (λj x y u w ex ey ru rw'=>EC I (hs j x y ex ey) (by show X.A.units+1+50<cLine;omega) ru rw') j h1 h2) _ _ _ _ ⟨.bl _,H,I,?_,q⟩
  show Value.bool _=Value.bool _
  rw[abg,←r1.length]
 |@len a b xs ys ha hb hl =>
  cases rx;cases ry
  obtain⟨its,r1,p1,_⟩:=I.list ha
  obtain⟨its2,r2,p2,_⟩:=I.list hb
  show wpAny _ _ (richCompare .NotEq (.ref a) (.ref b)) _ _ _
  exact SeqAt.RcNeAt.lists_lengths p1.isList p2.isList (by rw[abg,abg,←r1.length,←r2.length];simpa using hl) 'b' _ _ _ _ ⟨.bl true,H,I,rfl,q⟩
 |nn=>exact pH pins s σ H _ _ v u Q I rx ry ⟨rfl,q⟩
 |nl hb =>
  cases rx;cases ry
  obtain⟨its,r1,p1,_⟩:=I.list hb
  show wpAny _ _ (richCompare .NotEq _ _) _ _ _
  exact SeqAt.RcNeAt.none_list p1.isList 'b' _ _ _ _ ⟨.bl true,H,I,rfl,q⟩
 |ln ha =>
  cases rx;cases ry
  obtain⟨its,r1,p1,_⟩:=I.list ha
  show wpAny _ _ (richCompare .NotEq _ _) _ _ _
  exact SeqAt.RcNeAt.list_none p1.isList 'b' _ _ _ _ ⟨.bl true,H,I,rfl,q⟩
end
theorem Ko{scope:Scope}{env:Env}{x:Str}(h:scope.names.lookup x=some .free):(relabel scope env).names.lookup x=some .cell\/(relabel scope env).names.lookup x=some .free:=by
 have e:(relabel scope env).names.lookup x=(scope.names.lookup x).map λk=>if (k==NameKind.free&&env.scope.kind==.function&&env.kindOf x==some .cell) then NameKind.cell else k:=cT x scope.names
 rw[e,h,ab7]
 by_cases hc:(NameKind.free==NameKind.free&&env.scope.kind==.function&&env.kindOf x==some .cell)=true
 ·rw[abj hc];exact .inl rfl
 ·rw[abb hc];exact .inr rfl
theorem O7{scope:Scope}{env:Env}{x:Str}(h:scope.names.lookup x=some .cell\/scope.names.lookup x=some .free):(relabel scope env).names.lookup x=some .cell\/(relabel scope env).names.lookup x=some .free:=by
 rcases h with h|h
 ·have e:(relabel scope env).names.lookup x=(scope.names.lookup x).map λk=>if (k==NameKind.free&&env.scope.kind==.function&&env.kindOf x==some .cell) then NameKind.cell else k:=cT x scope.names
  rw[e,h,ab7]
  exact .inl rfl
 ·exact Ko h
structure jm(XN:List Str)(Hw:Scope)(N:List Str)(nv:Nat)(js:List Nat)(scope:Scope):Prop where
 kind:scope.kind=.function
 cell:∀y∈scope.names,y.2=.cell->scope.names.lookup y.1=some .cell
 loc:∀y∈scope.names,y.2=.local->scope.names.lookup y.1=some .local
 free:∀y∈scope.names,y.2=.free->scope.names.lookup y.1=some .free/\(Hw.names.lookup y.1=some .cell\/Hw.names.lookup y.1=some .free)
 nd:N.Nodup
 len:N.length=nv+js.length
 pl:js.map (λj=>XN[j]?)=(N.drop nv).map some
 fr:∀x∈N.drop nv,scope.names.lookup x=some .free
abbrev o6(scope:Scope)(C:Addr):List (Str×Addr):=cellsFrom (C+1) scope.names []
abbrev Bj(X:Cx)(scope:Scope)(C:Addr):List (Str×Addr):=o6 scope C++eg X.env scope.names []
theorem ku:∀(r:List (Str×NameKind))(n:Nat)(a b:List (Str×Addr)),cellsFrom n r (a++b)=cellsFrom n r a++b
 |[],_,_,_=>rfl
 | (x,k)::r,n,a,b=>by
  unfold cellsFrom
  split
  ·exact ku r (n+1) ((x,n)::a) b
  ·exact ku r n a b
theorem kB{x:Str}{c:Addr}:∀(r:List (Str×NameKind))(n:Nat)(a:List (Str×Addr)),(x,c)∈cellsFrom n r a->(x,NameKind.cell)∈r\/(x,c)∈a
 |[],_,_,h=>.inr h
 | (y,k)::r,n,a,h=>by
  unfold cellsFrom at h
  split at h
  ·rename_i hk
   have hk:k=.cell:=by simpa using hk
   rcases kB r (n+1) _ h with q|q
   ·exact .inl (abp _ q)
   ·rcases abt.mp q with q|q
    ·cases q;rw[hk];exact .inl abl
    ·exact .inr q
  ·rcases kB r n _ h with q|q
   ·exact .inl (abp _ q)
   ·exact .inr q
theorem jq{α:Type}{x:Str}:∀(a b:List (Str×α)),(a++b).lookup x=(match a.lookup x with|some c=>some c|none=>b.lookup x)
 |[],_=>rfl
 | (y,c)::a,b=>by
  rw[List.cons_append,acd,acd]
  cases x==y with
  |true=>rfl
  |false=>exact jq a b
abbrev jM(X:Cx)(N:List Str)(scope:Scope)(C:Addr)(s:Shared)(H:Hp)(fp:List Addr):Cx where
 prog:=X.prog
 w:=X.w
 K:=X.K
 mg:=X.mg
 base:=X.base
 A:=X.A
 N:=N
 s₀:=s
 H₀:=H
 env:=compEnvC scope (Bj X scope C) C X.env
 outer:=X.stack
 stack:=X.stack
 ex:=fp
 fn:=λx=>(o6 scope C).lookup x != none
 calm:=X.calm
 pn:=[]
 xe:=λ_ _=>False
theorem Mt{M:Model}{A:Around}{E:Value->Shared->Prop}{s:Shared}{scope:Scope}{globals:Addr}{cl:List (Str×Addr)}{qual:Str}{env:Env}{Q:Env->Shared->Prop}(hQ:∀h1,(∀b o,s.heap.get? b=some o->h1.get? b=some o)->h1.Ns s.heap.objs.size (λ_=>none)->CellsOk h1 (s.heap.objs.size+1) (o6 scope s.heap.objs.size)->Q (newEnv scope s.heap.objs.size globals (o6 scope s.heap.objs.size++cl) qual none .none (some env) builtinsNs) {s with heap:=h1}):wpAny M A (newFunctionEnv scope globals cl [] qual none .none (some env)) Q E s:=by
 simp only[newFunctionEnv,Option.isSome_some,acz]
 refine abe (wpAny_alloc ?_)
 refine abe (wpAny_layCells _ (λname kind cells=>by cases hkc:kind==NameKind.cell<;>simp[hkc]) _ _ _ _ ?_)
 have ok:=cellsFrom_ok scope.names (s.heap.push {cls:=.type "dict",data:=.dict #[]}) (s.heap.objs.size+1) [] ⟨λ_ _ hm=>(nomatch hm),List.Pairwise.nil⟩ (by rw[ab5];exact abh _)
 rw[ab5]at ok
 rw[show({s with heap:=s.heap.push {cls:=.type "dict",data:=.dict #[]}}:Shared).heap.objs.size=s.heap.objs.size+1 from ab5 ..]
 have e:=ku scope.names (s.heap.objs.size+1) [] cl
 rw[List.nil_append]at e
 rw[e,List.forIn_nil]
 refine abe (abz (abz ?_))
 exact hQ _ (λb o e=>pushCells_keeps _ _ b o (abm _ e)) ((Heap.Ns.new s.heap (.type "dict")).keeps (pushCells_keeps _ _)) ok
section
variable{X:Cx}{pins:List (Addr×Obj)}{σ:St}{H:Hp}{s:Shared}
theorem NZ{scope:Scope}{C:Addr}{h1:Heap}(hfr:∀n,(n,NameKind.free)∈scope.names->∃c,X.env.cells.lookup n=some c)(ck:CellsOk h1 (C+1) (o6 scope C)){x:Str}{c:Addr}(e:(Bj X scope C).lookup x=some c):((x,c)∈o6 scope C/\C<c/\h1.IsCell c none)\/(X.env.cells.lookup x=some c/\(eg X.env scope.names []).lookup x=some c):=by
 rw[jq]at e
 cases q:(o6 scope C).lookup x with
 |some d =>
  rw[q]at e;cases e
  have hm:=abQ q
  exact .inl ⟨hm,(ck.empty _ _ hm).2,(ck.empty _ _ hm).1⟩
 |none =>
  rw[q]at e
  exact .inr ⟨jg scope.names [] hfr (λx c z=>by cases z) _ _ e,e⟩
theorem De{N:List Str}{nv:Nat}{js:List Nat}{scope:Scope}{fp:List Addr}{h1:Heap}{tk:Nat}(I:Inv X pins σ H s)(S:jm X.N X.env.scope N nv js scope)(hf:∀b∈fp,kU X pins H b)(hfl:∀b∈fp,b<s.heap.objs.size)(keep:∀b o,s.heap.get? b=some o->h1.get? b=some o)(ns:h1.Ns s.heap.objs.size λ_=>none)(ck:CellsOk h1 (s.heap.objs.size+1) (o6 scope s.heap.objs.size)):Inv (jM X N scope s.heap.objs.size s H fp) [] (ji nv js σ) H {s with heap:=h1,toks:=tk}:=by
 have hfr:∀n,(n,NameKind.free)∈scope.names->∃c,X.env.cells.lookup n=some c:=λn hn=>I.ok.has n (S.free _ hn rfl).2
 have sub:∀x c,(eg X.env scope.names []).lookup x=some c->X.env.cells.lookup x=some c:=jg scope.names [] hfr (λx c z=>by cases z)
 have hlt:∀x c,X.env.cells.lookup x=some c->c<s.heap.objs.size:=λx c e=>by
  obtain⟨v,q⟩:=I.cell x c e
  exact q.lt
 have inv:∀x c,(Bj X scope s.heap.objs.size).lookup x=some c->((x,c)∈o6 scope s.heap.objs.size/\s.heap.objs.size<c/\h1.IsCell c none)\/(X.env.cells.lookup x=some c/\(eg X.env scope.names []).lookup x=some c):=λx c e=>NZ hfr ck e
 have ON:∀x,(relabel scope X.env).names.lookup x=some .cell\/(relabel scope X.env).names.lookup x=some .free->scope.names.lookup x=some .free\/scope.names.lookup x=some .cell:=by
  intro x hx
  have e:=cT (env:=X.env) x scope.names
  have hx':(relabel scope X.env).names.lookup x=_:=e
  rw[hx']at hx
  cases q:scope.names.lookup x with
  |none=>rw[q]at hx;rcases hx with hx|hx<;>cases hx
  |some k =>
   rw[q,ab7]at hx
   cases k<;>first|exact .inl rfl|exact .inr rfl | (exfalso;rcases hx with hx|hx<;>simp at hx)
 refine⟨⟨I.ok.mod,S.kind,I.ok.glob,I.ok.blt,abh _,λx y c e1 e2=>?_,λx hx=>?_,λx c z e=>?_,I.ok.hd,I.ok.frames,.inl rfl,λb hb=>?_,λb o e=>?_,?_,λb o e hb=>?_,λb hb z=>?_,I.stack,I.xu⟩,O,I.bare,Un.kept keep,⟨_,ns,λi x v e1 e2 e3=>?_⟩,λx c e=>?_,I.hok.fresh (abh _),λx c e=>?_,λp hp=>absurd (show p∈([]:List (Addr×Obj)) from hp) (by simp),I.hok.kept keep,?_⟩
 ·rcases inv x c e1 with ⟨m1,l1,_⟩|⟨o1,_⟩<;>rcases inv y c e2 with ⟨m2,l2,_⟩|⟨o2,_⟩
  ·exact name_of_addr ck.apart m1 m2
  ·exact absurd (hlt _ _ o2) (Nat.not_lt.mpr (acK l1))
  ·exact absurd (hlt _ _ o1) (Nat.not_lt.mpr (acK l2))
  ·exact I.ok.inj x y c o1 o2
 ·show ∃c,(Bj X scope s.heap.objs.size).lookup x=some c
  rw[jq]
  cases q:(o6 scope s.heap.objs.size).lookup x with
  |some d=>exact⟨d,rfl⟩
  |none =>
   rcases ON x hx with z|z
   ·exact iH _ _ _ (.inl (abQ z))
   ·have:=W.cellsFrom_some (x:=x) scope.names (s.heap.objs.size+1) [] (.inl z)
    rw[show cellsFrom (s.heap.objs.size+1) scope.names []=o6 scope s.heap.objs.size from rfl,q]at this
    cases this
 ·have e:(Bj X scope s.heap.objs.size).lookup x=some c:=e
  rw[jq]at e
  cases q:(o6 scope s.heap.objs.size).lookup x with
  |some d=>rw[q]at e;cases e;exact acK (ck.empty _ _ (abQ q)).2
  |none =>
   have z:((o6 scope s.heap.objs.size).lookup x != none)=true:=z
   rw[q]at z;cases z
 ·obtain⟨f0,f1,f2,f3,f4,f5⟩:=hf b hb
  refine⟨abP (hfl b hb),λx c e=>?_⟩
  rcases inv x c e with ⟨m1,l1,_⟩|⟨o1,_⟩
  ·exact acL (Nat.lt_trans (hfl b hb) l1)
  ·exact f4 x c o1
 ·exact I.bs b o e
 ·exact abv I.ok.IW I.sz
 ·obtain⟨f0,f1,f2,f3,f4,f5⟩:=hf b hb
  rcases f3 with z|z
  ·exact I.ok.Hg b o e z
  ·exact absurd (abD (abu e) (abv I.ok.IW z)) (acN _)
 ·obtain⟨f0,f1,f2,f3,f4,f5⟩:=hf b hb
  rcases abt.mp (I.qo b z) with q|q
  ·exact f1 q
  ·exact f2 q
 ·
  have hi:¬i<nv:=λhlt=>by
   unfold ji at e2
   rw[aco (by simpa using hlt),List.getElem?_replicate,abj hlt]at e2
   cases e2
  obtain⟨k,rfl⟩:∃k,i=nv+k:=⟨i-nv,by omega⟩
  unfold ji at e2
  rw[acG (by simp),ack,Nat.add_sub_cancel_left,abM]at e2
  cases hj:js[k]? with
  |none=>rw[hj]at e2;cases e2
  |some j =>
   rw[hj,ab7]at e2
   have Mb:(σ[j]?).getD none=some v:=abx e2
   have hσ:σ[j]?=some (some v):=by
    cases q:σ[j]? with
    |none=>rw[q]at Mb;cases Mb
    |some z=>rw[q]at Mb;exact congrArg some Mb
   have hd:(N.drop nv)[k]?=some x:=by rw[List.getElem?_drop];exact e1
   have hX:X.N[j]?=some x:=by
    have q:=congrArg (λl=>l[k]?) S.pl
    simp only[abM,hj,hd,ab7]at q
    exact abx q
   have hfx:=S.fr x (abi hd)
   have kx:=(S.free _ (abQ hfx) rfl).2
   obtain⟨m,_,hl⟩:=I.loc
   obtain⟨u,r,l⟩:=hl j x v hX hσ (.inr kx)
   refine⟨u,r,?_⟩
   rcases l with ⟨k1,_⟩|⟨_,c,hc,hcell⟩
   ·exfalso
    have Wg:X.env.scope.names.lookup x=some .local:=k1
    rcases kx with z|z<;>(rw[Wg]at z;cases z)
   ·obtain⟨c',hc'⟩:=iH (env:=X.env) scope.names [] x (.inl (abQ hfx))
    have e:=sub _ _ hc'
    rw[hc]at e;cases e
    have hno:(o6 scope s.heap.objs.size).lookup x=none:=by
     cases q:(o6 scope s.heap.objs.size).lookup x with
     |none=>rfl
     |some d =>
      rcases kB _ _ _ (abQ q) with z|z
      ·have:=S.cell _ z rfl
       rw[hfx]at this;cases this
      ·cases z
    refine .inr ⟨?_,c,?_,hcell.keeps keep⟩
    rotate_left
    ·show(Bj X scope s.heap.objs.size).lookup x=some c
     rw[jq,hno];exact hc'
    have e:=cT (env:=X.env) x scope.names
    have e':(relabel scope X.env).names.lookup x=_:=e
    rw[hfx,ab7]at e'
    show(relabel scope X.env).names.lookup x=some .cell\/(relabel scope X.env).names.lookup x=some .free
    rw[e']
    split
    ·exact .inl rfl
    ·exact .inr rfl
 ·rcases inv x c e with ⟨_,_,q⟩|⟨o1,_⟩
  ·exact⟨none,q⟩
  ·obtain⟨v,q⟩:=I.cell x c o1
   exact⟨v,q.keeps keep⟩
 ·rcases inv x c e with ⟨_,q,_⟩|⟨o1,_⟩
  ·exact I.hok.fresh (acK q)
  ·exact I.mV x c o1
 ·unfold ji
  show _=N.length
  rw[abq,ack,aa9,S.len]
end
section
variable{X:Cx}{elt tg iter:Expr}{ifs:List Expr}{scope:Scope}{pos:Pos}{N:List Str}{nv:Nat}{js:List Nat}{wi:TI}{g:TG}{tt:TT}{te:TE}
theorem Df{pins:List (Addr×Obj)}{σ:St}{H:Hp}{s:Shared}{Q:VK}{it:Addr}{fp:List Addr}{tn:Nat->Heap->Prop}{J:It}{E:Value->Shared->Prop}{RR:Value->Addr->Result->Shared->Prop}(hc:X.calm=true)(S:jm X.N X.env.scope N nv js scope)(hg:∀C s H fp,PG (jM X N scope C s H fp) tg g)(ht:∀C s H fp,Bd (jM X N scope C s H fp) ifs tt)(he:∀C s H fp,PE (jM X N scope C s H fp) elt te)(I:Inv X pins σ H s)(T:Turn X.prog X.w X.K tg J fp it tn)(st:tn 0 s.heap)(hf:∀b∈fp,kU X pins H b)(hR:∀D,H D=none->vv J g tt te Q D (ji nv js σ) H)(hRR:∀D C H' s' m,Inv X pins σ H' s'->kU X pins H' C->s'.heap.Ns C m->Q (.ref D) H'->RR (.ref D) C (.ok .next) s'):wpAny 'f' X.A (newList []) (λacc s₃=>wpAny 'f' X.A (newFunctionEnv scope X.env.globals (eg X.env scope.names []) [] X.env.qual none .none (some X.env)) (λcenv s₄ =>
   codeAny 'f' X.A (.compStart (.ListComp elt [⟨tg,iter,ifs,0⟩] scope pos) 0 (.ref it) acc {cenv with scope:=relabel scope X.env}) (RR acc cenv.locals) s₄) E s₃) E s:=by
 refine wpAny_newObj_type (Mt λh₁ Gk xR Kp=>?_)
 have I3:Inv X pins σ (upd H s.heap.objs.size (.lst [])) {s with heap:=s.heap.push {cls:=.type "list",data:=.seq ([]:List Value).toArray}}:=I.OI (t':=s.toks) (its:=[]) .nil (abW _)
 have hD:=I.fresh
 obtain⟨W,⟨m0,w0⟩,turn⟩:=hR s.heap.objs.size hD
 have ho:=T.obj 0 s.heap st
 have JJ:∀b∈fp,b<s.heap.objs.size:=λb hb=>let ⟨o,e,_⟩:=ho b hb;abu e
 have Es:∀b∈fp,kU X pins (upd H s.heap.objs.size (.lst [])) b:=λb hb=>⟨by rw[aH (abP (JJ b hb))];exact(hf b hb).1,(hf b hb).2⟩
 generalize RO:({s with heap:=s.heap.push {cls:=.type "list",data:=.seq ([]:List Value).toArray}}:Shared)=s3 at I3 xR Gk Kp
 have e3:s3.heap=s.heap.push {cls:=.type "list",data:=.seq ([]:List Value).toArray}:=by rw[←RO]
 have hfl:∀b∈fp,b<s3.heap.objs.size:=λb hb=>by rw[e3,ab5];exact Nat.lt_succ_of_lt (JJ b hb)
 have keep:=Gk
 have J0:=De (tk:=s3.toks) I3 S Es hfl keep xR Kp
 have st1:tn 0 h₁:=T.keep 0 s.heap h₁ st λb hb o e=>keep b o (by rw[e3];exact abm _ e)
 generalize hH3:upd H s.heap.objs.size (.lst [])=H3 at *
 generalize hY:jM X N scope s3.heap.objs.size s3 H3 fp=Y at *
 have inv:∀x c,(Bj X scope s3.heap.objs.size).lookup x=some c->((x,c)∈o6 scope s3.heap.objs.size/\s3.heap.objs.size<c/\h₁.IsCell c none)\/(X.env.cells.lookup x=some c/\(eg X.env scope.names []).lookup x=some c):=λx c e=>NZ (λn hn=>I.ok.has n (S.free _ hn rfl).2) Kp e
 have xN:∀{H':Hp},(∀b∈fp,H' b=none)->∀b∈fp,kU Y [] H' b:=λ{H'} hn b hb=>by
  subst hY
  obtain⟨f0,f1,f2,f3,f4,f5⟩:=Es b hb
  refine⟨hn b hb,abP (hfl b hb),λz=>?_,.inl hb,λx c e=>?_,λp hp=>absurd (show p∈([]:List (Addr×Obj)) from hp) (by simp)⟩
  ·rcases abt.mp (I3.qo b z) with q|q
   ·exact f1 q
   ·exact f2 q
  ·rcases inv x c e with ⟨_,q,_⟩|⟨o1,_⟩
   ·exact acL (Nat.lt_trans (hfl b hb) q)
   ·exact f4 x c o1
 have eA:Y.A=X.A:=by subst hY;rfl
 have eP:Y.prog=X.prog:=by subst hY;rfl
 have eW:Y.w=X.w:=by subst hY;rfl
 have eK:Y.K=X.K:=by subst hY;rfl
 have eC:Y.calm=true:=by subst hY;exact hc
 have eE:Y.env=compEnvC scope (Bj X scope s3.heap.objs.size) s3.heap.objs.size X.env:=by subst hY;rfl
 have Mc:Y.xe=λ_ _=>False:=by subst hY;rfl
 have Wh:PG Y tg g:=by subst hY;exact hg _ _ _ _
 have Wi:Bd Y ifs tt:=by subst hY;exact ht _ _ _ _
 have Wj:PE Y elt te:=by subst hY;exact he _ _ _ _
 have loop:codeAny 'f' X.A (.compLoop (.ListComp elt [⟨tg,iter,ifs,0⟩] scope pos) 0 (.ref it) (.ref s.heap.objs.size) (compEnvC scope (Bj X scope s3.heap.objs.size) s3.heap.objs.size X.env))
   (RR (.ref s.heap.objs.size) s3.heap.objs.size) {s3 with heap:=h₁,toks:=s3.toks}:=by
  refine xP (λn s'=>∃i ys τ H',Inv Y [] τ H' s'/\tn i s'.heap/\(∀b∈fp,H' b=none)/\W i n ys τ H') ?_ m0 ⟨0,[],_,H3,J0,st1,λb hb=>(Es b hb).1,w0⟩
  rintro n s4 ⟨i,ys,τ,H4,I4,RP,RQ,w4⟩
  obtain⟨hDl,tr⟩:=turn i n ys τ H4 w4
  rcases tr with ⟨stop,qn⟩|⟨go,Nn,RS,step⟩
  ·have d:=T.done Y eP eW eK eC i [] s4 τ H4 (λ_ _=>False) I4 (xN RQ) RP stop
   rw[eA]at d
   refine dJ d λr s5 ⟨hr,I5⟩=>?_
   subst hr
   have u:Inv X pins σ H4 s5:=by
    subst hY
    exact I3.NJ (ch:=fp) I5.os I5.base I5.hok I5.bare λb hb=>⟨(Es b hb).2.2.2.1,(Es b hb).2.1,(Es b hb).2.2.2.2.1,(Es b hb).2.2.2.2.2⟩
   have hC:H4 s3.heap.objs.size=none:=by have z:=I5.free;rw[eE]at z;exact z
   obtain⟨m,hn,_⟩:=I5.loc
   rw[eE]at hn
   exact hRR _ _ H4 s5 m u (I3.wm (abh _) hC) hn qn
  ·have d:=T.item Y eP eW eK eC i [] s4 τ H4 (λ_ _=>False) I4 (xN RQ) RP go
   rw[eA]at d
   refine dJ d λr s5 ⟨u,hr,h5⟩=>?_
   subst hr
   refine dJ h5 λ_ s6 ⟨x,H6,I6,r6,y6,OO,Wk⟩=>?_
   have Wl:=I6.pinned (xN Wk) (T.obj _ _ OO)
   have q6:=Wh _ s6 τ H6 x u _ Wl r6 (step x H6 y6)
   rw[eP,eW,eA,eE,Mc]at q6
   refine dJ q6 λ_ s7 ⟨σ7,H7,I7,q7⟩=>?_
   have q8:=Wi _ s7 σ7 H7 _ I7 q7
   rw[eP,eW,eA,eE,Mc]at q8
   refine dJ q8 λok s8 ⟨H8,I8,q8⟩=>?_
   have again:∀{σ9:St}{H9:Hp}{s9:Shared}{zs:List V},Inv Y ([]++tW fp s6.heap) σ9 H9 s9->(∃m',m'<n/\W (i+1) m' zs σ9 H9)->∃m,m<n/\∃i ys τ H',Inv Y [] τ H' s9/\tn i s9.heap/\(∀b∈fp,H' b=none)/\W i m ys τ H':=λ{σ9 H9 s9 zs} I9 n9=>by
    obtain⟨m',hm,w9⟩:=n9
    refine⟨m',hm,i+1,zs,σ9,H9,I9.nu,T.keep _ _ _ OO λb hb o e=>(I9.pin (b,o) (abO _ (abO _ (ic hb e)))).1,λb hb=>?_,w9⟩
    obtain⟨o,e,d⟩:=T.obj _ _ OO b hb
    exact(I9.pin (b,o) (abO _ (abO _ (ic hb e)))).2.1
   cases ok with
   |false =>
    rw[abb abB]
    rw[abb abB]at q8
    exact again I8 (RS _ _ _ q8)
   |true =>
    rw[abj rfl]
    rw[abj rfl]at q8
    have q9:=Wj _ s8 σ7 H8 _ I8 q8
    rw[eP,eW,eA,eE,Mc]at q9
    refine dJ q9 λy s9 ⟨yv,H9,I9,r9,RU,Wm,q9⟩=>?_
    have ap:=bI (X:=Y) _ s9 σ7 H9 (.ref s.heap.objs.size) [yv] (.ref s.heap.objs.size) [y] (λ_ OP=>Nn (ys++[yv]) σ7 OP) I9 rfl (.cons r9 .nil) ⟨_,ys,yv,rfl,rfl,RU,Wm,q9⟩
    rw[eP,eW,eA,Mc]at ap
    exact dJ ap λ_ JK ⟨_,OP,Wn,_,Wo⟩=>again Wn (RS _ _ _ Wo)
 subst RO
 exact codeAny_compStart_list loop (T.self _ 0 _ _ _ st1 loop)
theorem Kq{i:Nat}{x:Str}{pos' spos:Pos}(hc:X.calm=true)(hN:X.N.Nodup)(hi':X.N[i]?=some x)(hx:X.env.scope.names.lookup x=some .local)(S:jm X.N X.env.scope N nv js scope)(hi:PI X tg iter wi)(hg:∀C s H fp,PG (jM X N scope C s H fp) tg g)(ht:∀C s H fp,Bd (jM X N scope C s H fp) ifs tt)(he:∀C s H fp,PE (jM X N scope C s H fp) elt te)(hsw:swapsWith (.ListComp elt [⟨tg,iter,ifs,0⟩] scope pos) (some (.Name x pos')) spos.line X.env=pure true:=by rfl)(hs:∀x,foldedSetIterable iter X.env x=pure x:=by intro _;rfl):PS X (.Assign [.Name x pos'] (.ListComp elt [⟨tg,iter,ifs,0⟩] scope pos) spos) (Jm (JH wi g tt te nv js) (bQ i)):=by
 intro pins s σ H D I h
 rw[exec_Assign_Name_used _ _ _ _ hsw]
 refine abe (wpAny_standAt (abe ?_))
 show wpAny _ X.A (do let _ ←comprehension (.ListComp elt [⟨tg,iter,ifs,0⟩] scope pos) scope X.env _ (newList []) false (eval iter X.env) (some (assign (.Name x pos') X.env))) _ _ s
 refine abe (acp (wpAny_comprehension_free (use:=some (assign (.Name x pos') X.env)) (Q:=λ_ s'=>SP X pins D .next s') rfl hs (kq λn hn=>I.ok.has n (S.free _ hn rfl).2) S.kind S.loc
  (dJ (hi pins s σ H _ I h) λv s1 h1=>dJ h1 λitv s2 h2=>?_)) (λ_ s' hq=>abz (abz hq)) λ_ _ e=>e)
 obtain⟨it,fp,tn,J,H2,e,I2,T,st2,f2,hR⟩:=h2
 subst e
 refine Df (RR:=λacc C=>compPost 'f' X.A X.xe (some (assign (.Name x pos') X.env)) (λ_ s'=>SP X pins D .next s') acc C) hc S hg ht he I2 T st2 f2 hR ?_
 intro Dl C H' s' m I' fC hn q
 show wpAny _ X.A (assign (.Name x pos') X.env (.ref Dl)) _ _ _
 refine wpAny_assign_Name (tV I' hN hi' (.inl hx) (v:=.ref Dl) rfl (λs2 I3 ch=>?_) (.inr hx))
 obtain⟨a,sb,ha⟩:=ch
 have Wq:C≠a:=by
  rcases ha with rfl|ha
  ·exact fC.2.1
  ·exact(fC.2.2.2.2.1 x a ha).symm
 refine⟨m,hn.sameBut sb Wq,λh' sb'=>⟨_,H',?_,q⟩⟩
 exact I3.turned (t':=s2.toks) (λb o hb e=>(sb'.2 b hb).trans e) fC.1 fC.2.1 fC.2.2.2.1 fC.2.2.2.2.1 fC.2.2.2.2.2
end
theorem WU{XN:List Str}{Hw:Scope}{N:List Str}{nv:Nat}{js:List Nat}{scope:Scope}(kind:scope.kind=.function:=by rfl)(cell:∀y∈scope.names,y.2=.cell->scope.names.lookup y.1=some .cell:=by decide +kernel)(loc:∀y∈scope.names,y.2=.local->scope.names.lookup y.1=some .local:=by decide +kernel)(free:∀y∈scope.names,y.2=.free->scope.names.lookup y.1=some .free/\(Hw.names.lookup y.1=some .cell\/Hw.names.lookup y.1=some .free):=by decide +kernel)(nd:N.Nodup:=by decide +kernel)(len:N.length=nv+js.length:=by rfl)(pl:js.map (λj=>XN[j]?)=(N.drop nv).map some:=by rfl)(fr:∀x∈N.drop nv,scope.names.lookup x=some .free:=by decide +kernel):jm XN Hw N nv js scope:=⟨kind,cell,loc,free,nd,len,pl,fr⟩
theorem QW{x:Str}:[x].Nodup:=.cons (λy hy=>nomatch hy) .nil
section
variable{X:Cx}
theorem e7(i:Nat){x:Str}{pos:Pos}(hN:X.N.Nodup)(hi:X.N[i]?=some x:=by rfl)(hx:Loc X.env.scope x:=by first|exact .inl rfl|exact .inr rfl)(hf:X.fn x=true\/X.env.scope.names.lookup x=some .local:=by first|exact .inl rfl|exact .inr rfl|assumption):PG X (.Name x pos) (bQ i):=LP hN hi hx hf
theorem dj(i:Nat){x:Str}{e:Expr}{te:TE}{pos pos':Pos}(hN:X.N.Nodup)(he:PE X e te)(hi:X.N[i]?=some x:=by rfl)(hx:Loc X.env.scope x:=by first|exact .inl rfl|exact .inr rfl)(hs:swapsWith e (some (.Name x pos')) pos.line X.env=pure false:=by rfl)(hf:X.fn x=true\/X.env.scope.names.lookup x=some .local:=by first|exact .inl rfl|exact .inr rfl|assumption):PS X (.Assign [.Name x pos'] e pos) (Jm te (bQ i)):=Ow hN hi hx he hs hf
theorem zp{XN:List Str}{Hw:Scope}{N:List Str}{nv:Nat}{js:List Nat}{scope:Scope}(kind:scope.kind=.function:=by rfl)(cell:∀y∈scope.names,y.2≠.cell:=by decide +kernel)(loc:∀y∈scope.names,y.2=.local->scope.names.lookup y.1=some .local:=by decide +kernel)(free:∀y∈scope.names,y.2=.free->(Hw.names.lookup y.1=some .cell\/Hw.names.lookup y.1=some .free):=by decide +kernel)(nd:N.Nodup:=by decide +kernel)(len:N.length=nv+js.length:=by rfl)(pl:js.map (λj=>XN[j]?)=(N.drop nv).map some:=by rfl)(fr:∀x∈N.drop nv,scope.names.lookup x=some .free:=by decide +kernel):aX XN Hw N nv js scope:=⟨kind,cell,loc,free,nd,len,pl,fr⟩
theorem gv{id:String}{r:List V->Hp->VK->Prop}{x:Str}{e:Expr}{es:List Expr}{t:TA}{p pos:Pos}(hc:fk X (.builtin id) r)(hm:X.mg x=none)(ha:PA X (e::es) t)(hg:Gl X x:=by rfl)(hv:bootBuiltins x=some (.builtin id):=by decide +kernel)(hn:x ≠ "__name__":=by decide)(hdb:(x==("__debug__":Str))=false:=by decide)(he:starEach (e::es) X.env=(false,eval e X.env)::starEach es X.env:=by rfl)(hpl:(backTo pos (starEach es X.env)).any (·.1)=false:=by rfl):PE X (.Call (.Name x p) (e::es) [] pos) (Ve r t):=JB hc hg hm hv ha hn hdb he hpl
theorem EG{T:String}{r:List V->Hp->VK->Prop}{x:Str}{e:Expr}{es:List Expr}{t:TA}{p pos:Pos}(hc:fk X (.type T) r)(hm:X.mg x=none)(ha:PA X (e::es) t)(hg:Gl X x:=by rfl)(hv:bootBuiltins x=some (.type T):=by decide +kernel)(hn:x ≠ "__name__":=by decide)(hdb:(x==("__debug__":Str))=false:=by decide)(he:starEach (e::es) X.env=(false,eval e X.env)::starEach es X.env:=by rfl)(hpl:(backTo pos (starEach es X.env)).any (·.1)=false:=by rfl):PE X (.Call (.Name x p) (e::es) [] pos) (Ve r t):=Ht hc hg hm hv ha hn hdb he hpl
theorem I0(n:String){x:Str}{pos:Pos}(hm:X.mg x=none)(hg:Gl X x:=by rfl)(hv:bootBuiltins x=some (.type n):=by decide +kernel)(hn:x ≠ "__name__":=by decide)(hd:(x==("__debug__":Str))=false:=by decide):PE X (.Name x pos) (tC (.ty n)):=OQ n hg hm hv hn hd
theorem dR{k kk:Nat}{f:Addr}{fd:FuncData}{ps:List Str}{sp:Sp}{x:Str}{e:Expr}{es:List Expr}{t:TA}{p pos:Pos}(F:bu X.prog X.w X.K X.mg X.base eH k f fd ps sp)(hr:dM kk X.A)(hm:X.mg x=some (.ref f))(hk:W.keepIn X.K (.ref f)=true)(hb:Binds X.K fd ps [])(ha:PA X (e::es) t)(hkk:k<=kk:=by decide)(hg:Gl X x:=by rfl)(hdb:(x==("__debug__":Str))=false:=by decide)(he:starEach (e::es) X.env=(false,eval e X.env)::starEach es X.env:=by rfl)(hpl:(backTo pos (starEach es X.env)).any (·.1)=false:=by rfl):PE X (.Call (.Name x p) (e::es) [] pos) (Jx sp [] E0 t):=FU F (hr.mono hkk) hg hm hk hb .nil CQ ha hdb he hpl
theorem jK(K:W.Frag){a b:Expr}{ta tb:TE}{pos:Pos}(ha:PE X a ta)(hb:PE X b tb)(hs:AY b:=by exact λ_ _=>rfl)(h:X.K=K:=by rfl):PE X (.Subscript a b pos) (LB (OD K) ta tb):=Aq (Mf K h) ha hb hs
theorem fM(K:W.Frag){a b:Expr}{ta tb:TE}{pos:Pos}(ha:PE X a ta)(hb:PE X b tb)(hs:AY b:=by exact λ_ _=>rfl)(h:X.K=K:=by rfl):PE X (.Subscript a b pos) (LB (OC K) ta tb):=Aq (JO K h) ha hb hs
theorem cC{op:CmpOp}{r:R2}{a b:Expr}{ta tb:TE}{pos:Pos}(ho:oY X (compareOp op) r)(ha:PE X a ta)(hb:PE X b tb)(h:op≠.In:=by decide)(h2:op≠.NotIn:=by decide):PT X (.Compare a [op] [b] pos) (NQ (LB r ta tb)):=dP ho ha hb (Js b h h2)
theorem AD{op:CmpOp}{r:R2}{a b:Expr}{ta tb:TE}{pos:Pos}(ho:oY X (compareOp op) r)(ha:PE X a ta)(hb:PE X b tb)(h:op≠.In:=by decide)(h2:op≠.NotIn:=by decide):PE X (.Compare a [op] [b] pos) (LB r ta tb):=LX ho ha hb (Js b h h2)
end
abbrev FO(n q:Str)(s:Stmt)(d oc:Value)(od:Option Addr)(kV dc pm:Value)(an:Option Addr)(cd ct:Value)(sl:Array (Option Value)):Option Obj:=some ⟨oc,od,.func (W.fnOf n q (dQ s) (cK s) (aA s) d kV dc pm an cd ct),sl⟩
abbrev FN(n q:Str)(s:Stmt)(d kV dc pm:Value)(an:Option Addr)(cd ct:Value):FuncData:=W.fnOf n q (dQ s) (cK s) (aA s) d kV dc pm an cd ct
abbrev RF(a:Addr):Option (Option Value):=some (some (.ref a))
theorem fB.qY{K:W.Frag}{x qual:Str}{st:Stmt}{f:Addr}{fd:FuncData}{ps:List Str}(F:fB K x qual st f fd)(hp:ps.length=1:=by rfl)(h:∀(kV doc pm:Value)(an:Option Addr)(cdv ct a0:Value),bindArgs (W.fnOf x qual (dQ st) (cK st) (aA st) .none kV doc pm an cdv ct) ⟨[a0],[]⟩=pure (ps.zip [a0]):=by intros;rfl):Binds K fd ps [] :=
 F.binds λkV doc pm an cdv ct us hl=>by
  rw[hp]at hl
  match us,hl with
  |[a0],_=>exact h kV doc pm an cdv ct a0
theorem fB.kY{K:W.Frag}{x qual:Str}{st:Stmt}{f:Addr}{fd:FuncData}{ps:List Str}(F:fB K x qual st f fd)(hp:ps.length=2:=by rfl)(h:∀(kV doc pm:Value)(an:Option Addr)(cdv ct a0 a1:Value),bindArgs (W.fnOf x qual (dQ st) (cK st) (aA st) .none kV doc pm an cdv ct) ⟨[a0,a1],[]⟩=pure (ps.zip [a0,a1]):=by intros;rfl):Binds K fd ps [] :=
 F.binds λkV doc pm an cdv ct us hl=>by
  rw[hp]at hl
  match us,hl with
  |[a0,a1],_=>exact h kV doc pm an cdv ct a0 a1
theorem fB.qu{K:W.Frag}{x qual:Str}{st:Stmt}{f:Addr}{fd:FuncData}{ps:List Str}(F:fB K x qual st f fd)(hp:ps.length=3:=by rfl)(h:∀(kV doc pm:Value)(an:Option Addr)(cdv ct a0 a1 a2:Value),bindArgs (W.fnOf x qual (dQ st) (cK st) (aA st) .none kV doc pm an cdv ct) ⟨[a0,a1,a2],[]⟩=pure (ps.zip [a0,a1,a2]):=by intros;rfl):Binds K fd ps [] :=
 F.binds λkV doc pm an cdv ct us hl=>by
  rw[hp]at hl
  match us,hl with
  |[a0,a1,a2],_=>exact h kV doc pm an cdv ct a0 a1 a2
theorem fB.Sd{K:W.Frag}{x qual:Str}{st:Stmt}{f:Addr}{fd:FuncData}{ps:List Str}(F:fB K x qual st f fd)(hp:ps.length=4:=by rfl)(h:∀(kV doc pm:Value)(an:Option Addr)(cdv ct a0 a1 a2 a3:Value),bindArgs (W.fnOf x qual (dQ st) (cK st) (aA st) .none kV doc pm an cdv ct) ⟨[a0,a1,a2,a3],[]⟩=pure (ps.zip [a0,a1,a2,a3]):=by intros;rfl):Binds K fd ps [] :=
 F.binds λkV doc pm an cdv ct us hl=>by
  rw[hp]at hl
  match us,hl with
  |[a0,a1,a2,a3],_=>exact h kV doc pm an cdv ct a0 a1 a2 a3
theorem fB.Se{K:W.Frag}{x qual:Str}{st:Stmt}{f:Addr}{fd:FuncData}{ps:List Str}(F:fB K x qual st f fd)(hp:ps.length=5:=by rfl)(h:∀(kV doc pm:Value)(an:Option Addr)(cdv ct a0 a1 a2 a3 a4:Value),bindArgs (W.fnOf x qual (dQ st) (cK st) (aA st) .none kV doc pm an cdv ct) ⟨[a0,a1,a2,a3,a4],[]⟩=pure (ps.zip [a0,a1,a2,a3,a4]):=by intros;rfl):Binds K fd ps [] :=
 F.binds λkV doc pm an cdv ct us hl=>by
  rw[hp]at hl
  match us,hl with
  |[a0,a1,a2,a3,a4],_=>exact h kV doc pm an cdv ct a0 a1 a2 a3 a4
def FE(K:W.Frag)(x q:Str)(st:Stmt)(f:Addr):Prop:=∃fd,fB K x q st f fd
structure FQ(K:W.Frag)(x:Str)(st:Stmt)(f:Addr):Prop where
 a:W.nsIn K mainGlobals x=RF f
 e:FE K x x st f
structure FV(K:W.Frag)(C:Addr)(x q:Str)(st:Stmt)(f:Addr):Prop where
 a:W.findIn K (.ref C) x=RF f
 i:W.isFn K (.ref f)=true
 e:FE K x q st f
theorem FE.of{K:W.Frag}{x q:Str}{st:Stmt}{f:Addr}{oc:Value}{od an:Option Addr}{sl:Array (Option Value)}{kV dc pm cd ct:Value}(l:K.lookup f=FO x q st .none oc od kV dc pm an cd ct sl)(c:W.codeIn K cd q=true)(k:W.keepIn K (.ref f)=true):FE K x q st f:=⟨_,JF l c k⟩
theorem FQ.of{K:W.Frag}{x:Str}{st:Stmt}{f:Addr}{oc:Value}{od an:Option Addr}{sl:Array (Option Value)}{kV dc pm cd ct:Value}(a:W.nsIn K mainGlobals x=RF f)(l:K.lookup f=FO x x st .none oc od kV dc pm an cd ct sl)(c:W.codeIn K cd x=true)(k:W.keepIn K (.ref f)=true):FQ K x st f:=⟨a,.of l c k⟩
theorem FV.of{K:W.Frag}{C:Addr}{x q:Str}{st:Stmt}{f:Addr}{oc:Value}{od an:Option Addr}{sl:Array (Option Value)}{kV dc pm cd ct:Value}(a:W.findIn K (.ref C) x=RF f)(i:W.isFn K (.ref f)=true)(l:K.lookup f=FO x q st .none oc od kV dc pm an cd ct sl)(c:W.codeIn K cd q=true)(k:W.keepIn K (.ref f)=true):FV K C x q st f:=⟨a,i,.of l c k⟩
end L2
namespace My
open PySem L2
def top(i:Nat):Stmt:=PySem.Challenge.pw_dialecthall_k86_trees_looked_at.main.body.getD i (.Pass ⟨0,0,0,0⟩)
abbrev qv:Stmt:=top 8
abbrev jr:Stmt:=top 9
abbrev e9:Stmt:=top 10
abbrev ud:Stmt:=top 11
abbrev eo:Stmt:=top 14
abbrev bG:Stmt:=inClass (top 15) 0
abbrev jt:Stmt:=inClass (top 15) 1
abbrev lK:Stmt:=top 16
abbrev fV:Stmt:=top 18
abbrev iL:Stmt:=top 19
abbrev kC:Stmt:=top 20
abbrev kD:Stmt:=top 21
abbrev iM:Stmt:=top 22
abbrev lM:Stmt:=top 23
abbrev iN:Stmt:=inClass (top 24) 0
abbrev nC:Stmt:=inClass (top 24) 1
abbrev lN:Stmt:=top 26
abbrev EH:Stmt:=top 27
abbrev xW:Stmt:=top 28
abbrev qw:Stmt:=top 29
abbrev lO:Stmt:=top 30
abbrev fZ:Stmt:=top 32
abbrev lP:Stmt:=top 33
abbrev fP:Stmt:=top 34
abbrev lQ:Stmt:=top 35
abbrev i8:Stmt:=top 36
abbrev fc:Stmt:=top 37
abbrev ju:Stmt:=top 38
abbrev xC:Stmt:=top 39
abbrev jv:Stmt:=top 41
abbrev lR:Stmt:=top 42
abbrev kF:Stmt:=top 43
abbrev nD:Stmt:=top 44
abbrev lS:Stmt:=top 45
abbrev nF:Stmt:=top 46
abbrev i9:Stmt:=top 47
abbrev nG:Stmt:=top 49
abbrev nH:Stmt:=top 48
abbrev kG:Stmt:=top 50
abbrev lT:Stmt:=top 51
abbrev qx:Stmt:=top 52
abbrev lU:Stmt:=top 53
abbrev kH:Stmt:=top 54
abbrev ja:Stmt:=top 55
abbrev nI:Stmt:=top 56
abbrev jN:Stmt:=top 57
abbrev gJ:Stmt:=top 58
abbrev jO:Stmt:=top 59
abbrev ff:Stmt:=top 60
abbrev ie:Stmt:=top 61
abbrev kI:Stmt:=top 62
abbrev lV:Stmt:=top 63
abbrev dW:Stmt:=top 64
abbrev nJ:Stmt:=top 65
theorem ah{H:Hp}{l:Addr}{o:HO}(h:H l=none):aG H (upd H l o):=λb u e=>by rw[aH (bO e h)];exact e
theorem aL{H H2:Hp}{l:Addr}{o:HO}(h:H l=none)(s:aG H H2):aG H (upd H2 l o):=λb u e=>by rw[aH (bO e h)];exact s b u e
theorem o7{i:Nat}{x:V}{σ:St}{H:Hp}{A B:St->Hp->Prop}(h:A (σ.set i (some x)) H):bQ i x σ H (λτ2 H2=>JG τ2 H2 λb H3=>if b=true then A τ2 H3 else B τ2 H3):=by
 show(if true=true then A (σ.set i (some x)) H else B (σ.set i (some x)) H)
 exact fD h
theorem N1{p A B:Prop}[Decidable p](hp:¬p)(h:B):if decide p=true then A else B:=by rw[abb (by simpa using hp)];exact h
theorem Gm{A B:Prop}{b:Bool}(hb:b=true)(h:B):if (!b)=true then A else B:=by rw[hb];exact bE h
theorem EI{α:Type}{xs:List α}{i:Int}(h0:0<=i)(h:i<xs.length):∃c,fu xs i=some c/\c∈xs:=by
 obtain⟨j,rfl⟩:∃j:Nat,i=j:=⟨i.toNat,by omega⟩
 have hj:j<xs.length:=by omega
 exact⟨xs[j],bh (by simp[hj]),acM hj⟩
def Pn(c:Nat):Prop:=32<=c/\c<=126/\c≠37
instance(c:Nat):Decidable (Pn c):=by unfold Pn;exact inferInstance
structure Sg(z:Str):Prop where
 nd:z.cps.toList.Nodup
 pr:∀c∈z.cps.toList,Pn c
def Mn(z:Str):Prop:=0<z.length/\z.length<=100/\∀c∈z.cps.toList,Pn c
instance(z:Str):Decidable (Mn z):=by unfold Mn;exact inferInstance
structure Gd(p q f:Str):Prop where
 gp:Sg p
 gq:Sg q
 gf:Sg f
 p1:1<=p.length
 p3:p.length<=3
 q2:q.length<=2
 f2:f.length<=2
def pI(p q f:Str)(b1 b2 b3 b4:Bool):List V:=[.str p,.str q,.str f,.bl b1,.bl b2,.bl b3,.bl b4]
def Gn(p q f:Str)(b1 b2 b3 b4:Bool):List (Str×V):=[("parts",.str p),("quotes",.str q),("frees",.str f),("twin",.bl b1),("wide",.bl b2),("thin",.bl b3),("stray",.bl b4)]
def away(t:Str)(c:Nat):Bool:=!(!(Builtin.Str.occurrences t (sg c) 0 t.length 1).isEmpty)
theorem Dg(t:Str)(c:Nat):away t c=true↔c∉t.cps.toList:=by
 unfold away
 have e:(!(Builtin.Str.occurrences t (sg c) 0 t.length 1).isEmpty)=decide (c∈t.cps.toList):=StrLaws.found_one t c
 rw[e]
 simp
theorem O8{z:Str}{c:Nat}(h:Sg z)(hc:Pn c)(ha:away z c=true):Sg (z++sg c):=by
 have e:(z++sg c).cps.toList=z.cps.toList++[c]:=by
  show(z.cps ++ #[c]).toList=_
  simp
 have hn:=(Dg z c).mp ha
 refine⟨?_,?_⟩
 ·rw[e,acI]
  refine⟨h.nd,by simp,λa ha b hb=>?_⟩
  rw[abf.mp hb]
  intro q;exact hn (q▸ha)
 ·rw[e]
  intro d hd
  rcases abG.mp hd with z'|z'
  ·exact h.pr d z'
  ·rw[abf.mp z'];exact hc
theorem O9:Sg ("":Str):=by
 have e:("":Str).cps.toList=[]:=by decide +kernel
 refine⟨?_,?_⟩
 ·rw[e];exact List.nodup_nil
 ·rw[e];intro c hc;cases hc
theorem lW(a b:Str):(a++b).length=a.length+b.length:=by
 show(a.cps++b.cps).size=_
 rw[Array.size_append];rfl
theorem fE{K:W.Frag}{H H':Hp}{a:Addr}{xs:List V}(e:aG H H')(h:bD K H a xs):bD K H' a xs:=by
 rcases h with (h|⟨o,h⟩)|h
 ·exact .inl (.inl (e _ _ h))
 ·exact .inl (.inr ⟨o,e _ _ h⟩)
 ·exact .inr h
theorem Gp{A B:Prop}{b:Bool}(hb:b=false)(h:A):if (!b)=true then A else B:=by rw[hb];exact fD h
theorem xX{A B:Prop}{b:Bool}(hb:b=true)(h:A):if b=true then A else B:=by rw[hb];exact fD h
theorem xY{A B:Prop}{b:Bool}(hb:b=false)(h:B):if b=true then A else B:=by rw[hb];exact bE h
def jL(c:Nat)(z:Str):Bool:=!(Builtin.Str.occurrences z (sg c) 0 z.length 1).isEmpty
def bA(a b:Str):Bool:=decide (V.str a=V.str b)
theorem kJ{a b:Str}(h:bA a b=true):a=b:=by have:=abT h;cases this;rfl
theorem cH(a:Str):bA a a=true:=abo rfl
inductive Res where
 |go (k w u:Str)
 |tQ (w:Str)
def wz(K:W.Frag)(H:Hp)(v:V):Res->Prop
 | .go k w u=>bA k ("fault":Str)=false/\∃a b,v=.ref a/\bD K H a [.str k,.ref b]/\bD K H b [.str w,.str u]
 | .tQ w=>∃a,v=.ref a/\bD K H a [.str ("fault":Str),.str w]
theorem bU{K:W.Frag}{H:Hp}{Q:VK}{k w u:Str}{r:Res}(e:r=.go k w u)(hk:bA k ("fault":Str)=false)(h:∀v H',aG H H'->wz K H' v r->Q v H'):[V.str w,V.str u].length<=sizeLine/\∀b,H b=none->([V.str k,V.ref b].length<=sizeLine/\∀a,(upd H b (.tup [.str w,.str u])) a=none->Q (.ref a) (upd (upd H b (.tup [.str w,.str u])) a (.tup [.str k,.ref b]))):=by
 refine⟨(by show 2<=sizeLine;decide),λb hb=>⟨(by show 2<=sizeLine;decide),λa ha=>?_⟩⟩
 have s1:=ah (o:=HO.tup [.str w,.str u]) hb
 have s2:=ah (o:=HO.tup [.str k,.ref b]) ha
 refine h _ _ (s1.trans s2) ?_
 rw[e]
 exact⟨hk,a,b,O,bD.of ai,fE s2 (bD.of ai)⟩
theorem ig{K:W.Frag}{H H0:Hp}{Q:VK}{k w u:Str}{r:Res}{b:Addr}(e:r=.go k w u)(hk:bA k ("fault":Str)=false)(s0:aG H0 H)(hb:bD K H b [.str w,.str u])(h:∀v H',aG H0 H'->wz K H' v r->Q v H'):[V.str k,V.ref b].length<=sizeLine/\∀a,H a=none->Q (.ref a) (upd H a (.tup [.str k,.ref b])):=by
 refine⟨(by show 2<=sizeLine;decide),λa ha=>?_⟩
 have s2:=ah (o:=HO.tup [.str k,.ref b]) ha
 refine h _ _ (s0.trans s2) ?_
 rw[e]
 exact⟨hk,a,b,O,bD.of ai,fE s2 hb⟩
theorem iO{K:W.Frag}{H:Hp}{Q:VK}{w:Str}{r:Res}(e:r=.tQ w)(h:∀v H',aG H H'->wz K H' v r->Q v H'):[V.str ("fault":Str),V.str w].length<=sizeLine/\∀a,H a=none->Q (.ref a) (upd H a (.tup [.str ("fault":Str),.str w])):=by
 refine⟨(by show 2<=sizeLine;decide),λa ha=>?_⟩
 have s2:=ah (o:=HO.tup [.str ("fault":Str),.str w]) ha
 refine h _ _ s2 ?_
 rw[e]
 exact⟨a,O,bD.of ai⟩
theorem dF:bA ("skip":Str) ("fault":Str)=false:=by decide +kernel
theorem qy:bA ("end":Str) ("fault":Str)=false:=by decide +kernel
theorem lX:bA ("part":Str) ("fault":Str)=false:=by decide +kernel
theorem dz:bA ("put":Str) ("fault":Str)=false:=by decide +kernel
def fF(p q f:Str)(b3:Bool)(w u:Str)(c:Nat):Res :=
 if jL c f=true then .go ("skip":Str) ("freed":Str) ("":Str) else
 if bA (sg c) (Str.ofString "\n")=true then .go ("end":Str) ("row":Str) ("":Str) else
 if jL c q=true then .go ("skip":Str) ("within":Str) (sg c) else
 if jL c p=true then .go ("part":Str) ("cell":Str) ("":Str) else
 if bA (sg c) (" ":Str)=true then (if b3=true then .go ("skip":Str) w u else .go ("put":Str) ("plain":Str) ("":Str)) else
 .go ("put":Str) ("plain":Str) ("":Str)
def fW(p q f:Str)(b4:Bool)(c:Nat):Res :=
 if jL c f=true then .go ("skip":Str) ("freed":Str) ("":Str) else
 if bA (sg c) (Str.ofString "\n")=true then .go ("end":Str) ("row":Str) ("":Str) else
 if jL c p=true then .go ("part":Str) ("cell":Str) ("":Str) else
 if jL c q=true then (if (!b4)=true then .tQ ("quote":Str) else .go ("put":Str) ("plain":Str) ("":Str)) else
 .go ("put":Str) ("plain":Str) ("":Str)
def dS(f:Str)(b1 b2:Bool)(u:Str)(c:Nat):Res :=
 if jL c f=true then .go ("skip":Str) ("freed":Str) u else
 if bA (sg c) u=true then (if b1=true then .go ("skip":Str) ("doubt":Str) u else .go ("skip":Str) ("behind":Str) ("":Str)) else
 if bA (sg c) (Str.ofString "\n")=true then (if (!b2)=true then .tQ ("line":Str) else .go ("put":Str) ("within":Str) u) else
 .go ("put":Str) ("within":Str) u
def cz(p:Str)(b3:Bool)(c:Nat):Res :=
 if bA (sg c) (Str.ofString "\n")=true then .go ("end":Str) ("row":Str) ("":Str) else
 if jL c p=true then .go ("part":Str) ("cell":Str) ("":Str) else
 if bA (sg c) (" ":Str)=true then (if b3=true then .go ("skip":Str) ("behind":Str) ("":Str) else .tQ ("behind":Str)) else
 .tQ ("behind":Str)
def iP(p:Str)(b3:Bool)(u:Str)(c:Nat):Res:=if bA (sg c) u=true then .go ("put":Str) ("within":Str) u else cz p b3 c
def gM(u:Str):Res:=if bA u ("":Str)=true then .go ("put":Str) ("plain":Str) ("":Str) else .go ("put":Str) ("within":Str) u
def iQ(b2:Bool)(u:Str)(c:Nat):Res :=
 if bA (sg c) (Str.ofString "\n")=true then (if (!b2)=true then .tQ ("line":Str) else gM u) else gM u
def gO(p q f:Str)(b3 b4:Bool)(w u:Str)(c:Nat):Res:=if bA w ("plain":Str)=true then fW p q f b4 c else fF p q f b3 w u c
def cU(p q f:Str)(b1 b2 b3 b4:Bool)(w u:Str)(c:Nat):Res :=
 if bA w ("within":Str)=true then dS f b1 b2 u c else
 if bA w ("freed":Str)=true then iQ b2 u c else
 if bA w ("doubt":Str)=true then iP p b3 u c else
 if bA w ("behind":Str)=true then cz p b3 c else
 gO p q f b3 b4 w u c
theorem ns{a b:String}(h:bA (Str.ofString a) (Str.ofString b)=false):¬bA (Str.ofString a) (Str.ofString b)=true:=by rw[h];decide
theorem Kr{p q f:Str}{b1 b2 b3 b4:Bool}{w u:Str}{c:Nat}(h:bA w ("plain":Str)=true):cU p q f b1 b2 b3 b4 w u c=fW p q f b4 c:=by
 cases kJ h
 unfold cU gO
 rw[abb (ns (by decide +kernel)),abb (ns (by decide +kernel)),abb (ns (by decide +kernel)),abb (ns (by decide +kernel)),abj (cH _)]
theorem iu{p q f:Str}{b1 b2 b3 b4:Bool}{w u:Str}{c:Nat}(h:bA w ("within":Str)=true):cU p q f b1 b2 b3 b4 w u c=dS f b1 b2 u c:=by
 unfold cU
 rw[abj h]
theorem jw{p q f:Str}{b1 b2 b3 b4:Bool}{w u:Str}{c:Nat}(h:bA w ("doubt":Str)=true):cU p q f b1 b2 b3 b4 w u c=iP p b3 u c:=by
 cases kJ h
 unfold cU
 rw[abb (ns (by decide +kernel)),abb (ns (by decide +kernel)),abj (cH _)]
theorem jf{p q f:Str}{b1 b2 b3 b4:Bool}{w u:Str}{c:Nat}(h:bA w ("behind":Str)=true):cU p q f b1 b2 b3 b4 w u c=cz p b3 c:=by
 cases kJ h
 unfold cU
 rw[abb (ns (by decide +kernel)),abb (ns (by decide +kernel)),abb (ns (by decide +kernel)),abj (cH _)]
theorem qZ{p q f:Str}{b1 b2 b3 b4:Bool}{w u:Str}{c:Nat}(h:bA w ("freed":Str)=true):cU p q f b1 b2 b3 b4 w u c=iQ b2 u c:=by
 cases kJ h
 unfold cU
 rw[abb (ns (by decide +kernel)),abj (cH _)]
theorem Gq{p q f:Str}{b1 b2 b3 b4:Bool}{w u:Str}{c:Nat}(h1:bA w ("within":Str)=false)(h2:bA w ("freed":Str)=false)(h3:bA w ("doubt":Str)=false)(h4:bA w ("behind":Str)=false):cU p q f b1 b2 b3 b4 w u c=gO p q f b3 b4 w u c:=by
 unfold cU
 rw[h1,h2,h3,h4]
 rfl
theorem gu{b:Bool}(h:¬b=true):b=false:=by cases b<;>simp_all
def tfl(d:Addr):List (Str×V):=[("dialect",.ref d)]
structure Tn(C CT:Addr)(H:Hp)(y:Addr)(p q f:Str)(b1 b2 b3 b4:Bool):Prop where
 ok:∃dy d dd,H y=some (.ins CT dy (tfl d))/\H d=some (.ins C dd (Gn p q f b1 b2 b3 b4))
theorem Tn.mono{C CT:Addr}{H H':Hp}{y:Addr}{p q f:Str}{b1 b2 b3 b4:Bool}(s:aG H H')(h:Tn C CT H y p q f b1 b2 b3 b4):Tn C CT H' y p q f b1 b2 b3 b4:=by
 obtain⟨dy,d,dd,e1,e2⟩:=h.ok
 exact⟨dy,d,dd,s _ _ e1,s _ _ e2⟩
theorem HM{H H':Hp}{y dy:Addr}{o:HO}(hy:H y=none)(QX:H dy=none)(kp:∀b o',upd (upd H dy (.own y)) y o b=some o'->b≠y->H' b=some o'):aG H H':=λb o' e=>kp b o' (by rw[aH (bO e hy),aH (bO e QX)];exact e) (bO e hy)
theorem Ks{H:Hp}{y dy b:Addr}{o o':HO}(hy:H y=none)(QX:H dy=none)(e:H b=some o'):upd (upd H dy (.own y)) y o b=some o':=by rw[aH (bO e hy),aH (bO e QX)];exact e
theorem aQ{α β:Type}{F G:α->β->Prop}(h:∀a b,F a b->G a b):∀{xs:List α}{ys:List β},Paired F xs ys->Paired G xs ys
 |_,_,.nil=>.nil
 |_,_,.cons q r=>.cons (h _ _ q) (aQ h r)
theorem cu{α β:Type}{F:α->β->Prop}:∀{xs xs':List α}{ys ys':List β},Paired F xs ys->Paired F xs' ys'->Paired F (xs++xs') (ys++ys')
 |_,_,_,_,.nil,r=>r
 |_,_,_,_,.cons q t,r=>.cons q (cu t r)
theorem aI{α β:Type}{F:α->β->Prop}:∀{xs:List α}{ys:List β},Paired F xs ys->∀(j:Nat) x,xs[j]?=some x->∃y,ys[j]?=some y/\F x y
 |_,_,.nil,j,x,h=>by simp at h
 |_,_,.cons q t,0,x,h=>by simp at h;subst h;exact⟨_,rfl,q⟩
 |_,_,.cons q t,j+1,x,h=>by
  obtain⟨y,h1,h2⟩:=aI t j x (by simpa using h)
  exact⟨y,by simpa using h1,h2⟩
def c5:List (Str×Str):=[(Str.ofString "row",("":Str)),(Str.ofString "cell",("":Str)),(Str.ofString "plain",("":Str)),(Str.ofString "behind",("":Str)),(Str.ofString "freed",("":Str))]
def c3(c:Nat):List (Str×Str):=[(Str.ofString "within",sg c),(Str.ofString "doubt",sg c),(Str.ofString "freed",sg c)]
def cont(l:List Nat):List (Str×Str):=c5++l.flatMap c3
def Vq(u f:Str):Bool:=!(!(Builtin.Str.occurrences f u 0 f.length 1).isEmpty)
def vD(w u:Str):Bool:=Ey [.str w,.str u] [.str ("row":Str),.str ("":Str)]
theorem Mu(c:Nat)(z:Str):jL c z=decide (c∈z.cps.toList):=StrLaws.found_one z c
theorem Pa{c:Nat}{z:Str}(h:c∉z.cps.toList):¬jL c z=true:=by rw[Mu];simpa using h
theorem l10{z:Str}(g:Sg z):¬jL 10 z=true:=Pa λh=>by have:=(g.pr 10 h).1;omega
theorem lnl:Str.ofString "\n"=sg 10:=by decide +kernel
theorem la:Str.ofString "a"=sg 97:=by decide +kernel
theorem app_list(a b:Str):(a++b).cps.toList=a.cps.toList++b.cps.toList:=by
 show(a.cps++b.cps).toList=_
 simp
theorem Bk{K:W.Frag}{H:Hp}{a l:Addr}{xs ys:List V}{o:HO}(hl:H l=some (.lst ys))(e2:bD K H a xs):bD K (upd H l o) a xs:=by
 rcases e2 with (h|⟨ob,h⟩)|h
 ·exact .inl (.inl ((aH (CI h hl (by intro z;cases z))).trans h))
 ·exact .inl (.inr ⟨ob,(aH (CI h hl (by intro z;cases z))).trans h⟩)
 ·exact .inr h
theorem bw{α:Type}{l:List α}{i:Nat}{c:α}(h:l[i]?=some c):l.take (i+1)=l.take i++[c]:=by
 rw[List.take_succ,h];rfl
def gh(z:Str):Prop:=∀k∈z.cps.toList,k=10\/Pn k
theorem sgL{c:Nat}{z:Str}(e:z=("\n":Str))(h:¬decide (V.str (sg c)=V.str z)=true):c≠10:=λe2=>h (by
 have:Str.ofString "\n"=sg 10:=by decide +kernel
 rw[e,e2,this];exact abo rfl)
theorem cR{t u:TS}{D:Ends}{σ:St}{H:Hp}(N:St->Hp->Prop)(hu:∀σ' H',N σ' H'->u D σ' H')(ht:(∀σ' H',N σ' H'->u D σ' H')->t {D with nx:=u D} σ H):Rq t u D σ H:=ht hu
theorem EJ:("":Str).length=0:=by decide +kernel
def runM(p q f:Str)(b1 b2 b3 b4:Bool):Str->Str->List Nat->List Str×Str×Str×Option Str
 |w,u,[]=>([],w,u,none)
 |w,u,c::cs=>match cU p q f b1 b2 b3 b4 w u c with
  | .tQ e=>([],w,u,some e)
  | .go k w' u'=>(k::(runM p q f b1 b2 b3 b4 w' u' cs).1,(runM p q f b1 b2 b3 b4 w' u' cs).2)
def Dh(ks:List Str)(r:List Str×Str×Str×Option Str):List Str×Str×Str×Option Str:=(ks++r.1,r.2)
theorem Ku{p q f:Str}{b1 b2 b3 b4:Bool}{w u k w' u':Str}{c:Nat}{cs:List Nat}{ks:List Str}(h:cU p q f b1 b2 b3 b4 w u c=.go k w' u'):Dh ks (runM p q f b1 b2 b3 b4 w u (c::cs))=Dh (ks++[k]) (runM p q f b1 b2 b3 b4 w' u' cs):=by
 have e:runM p q f b1 b2 b3 b4 w u (c::cs)=(k::(runM p q f b1 b2 b3 b4 w' u' cs).1,(runM p q f b1 b2 b3 b4 w' u' cs).2):=by
  show(match cU p q f b1 b2 b3 b4 w u c with | .tQ e=>([],w,u,some e) | .go k w' u'=>(k::(runM p q f b1 b2 b3 b4 w' u' cs).1,(runM p q f b1 b2 b3 b4 w' u' cs).2))=_
  rw[h]
 rw[e]
 unfold Dh
 rw[List.append_assoc]
 rfl
theorem Gr{p q f:Str}{b1 b2 b3 b4:Bool}{w u e:Str}{c:Nat}{cs:List Nat}{ks:List Str}(h:cU p q f b1 b2 b3 b4 w u c=.tQ e):Dh ks (runM p q f b1 b2 b3 b4 w u (c::cs))=(ks,w,u,some e):=by
 have e2:runM p q f b1 b2 b3 b4 w u (c::cs)=([],w,u,some e):=by
  show(match cU p q f b1 b2 b3 b4 w u c with | .tQ e=>([],w,u,some e) | .go k w' u'=>(k::(runM p q f b1 b2 b3 b4 w' u' cs).1,(runM p q f b1 b2 b3 b4 w' u' cs).2))=_
  rw[h]
 rw[e2]
 unfold Dh
 rw[acq]
theorem Gs{p q f:Str}{b1 b2 b3 b4:Bool}{w u:Str}{ks:List Str}:Dh ks (runM p q f b1 b2 b3 b4 w u [])=(ks,w,u,none):=by
 show(ks++[],w,u,none)=_
 rw[acq]
def Kv:Option Str->V
 |none=>.non
 |some e=>.str e
def zq(r:List Str×Str×Str×Option Str):Str:=match r.2.2.2 with
 |some e=>e
 |none=>if vD r.2.1 r.2.2.1=true then Str.ofString "" else Str.ofString "cut"
theorem Tn.but{C CT:Addr}{H:Hp}{y:Addr}{p q f:Str}{b1 b2 b3 b4:Bool}{l:Addr}{ys:List V}{o:HO}(hl:H l=some (.lst ys))(h:Tn C CT H y p q f b1 b2 b3 b4):Tn C CT (upd H l o) y p q f b1 b2 b3 b4:=by
 obtain⟨dy,d,dd,e1,e2⟩:=h.ok
 exact⟨dy,d,dd,(aH (CI e1 hl (by intro z;cases z))).trans e1,(aH (CI e2 hl (by intro z;cases z))).trans e2⟩
theorem drop_cons{l:List Nat}{i c:Nat}(h:l[i]?=some c):l.drop i=c::l.drop (i+1):=by
 obtain⟨h1,h2⟩:=abd.mp h
 rw[List.drop_eq_getElem_cons h1,h2]
def WV(ks:List Str):Nat:=(ks.map V.str).countP λz=>Ar z (.str ("end":Str))
theorem uf(ks:List Str):(ks.map V.str).all dN=true:=by rw[List.all_map,abK];intro _ _;rfl
theorem Kw{p q f:Str}{b1 b2 b3 b4:Bool}{w u e:Str}{c:Nat}(h:cU p q f b1 b2 b3 b4 w u c=.tQ e):e=Str.ofString "line"\/e=Str.ofString "quote"\/e=("behind":Str):=by
 have hb:∀{p:Str}{b3:Bool},cz p b3 c=.tQ e->e=Str.ofString "line"\/e=Str.ofString "quote"\/e=("behind":Str):=by
  intro p b3 h
  unfold cz at h
  split at h
  ·cases h
  split at h
  ·cases h
  split at h
  ·split at h
   ·cases h
   ·cases h;exact .inr (.inr rfl)
  ·cases h;exact .inr (.inr rfl)
 unfold cU at h
 split at h
 ·unfold dS at h
  split at h
  ·cases h
  split at h
  ·split at h<;>cases h
  split at h
  ·split at h
   ·cases h;exact .inl rfl
   ·cases h
  ·cases h
 split at h
 ·unfold iQ gM at h
  split at h
  ·split at h
   ·cases h;exact .inl rfl
   ·split at h<;>cases h
  ·split at h<;>cases h
 split at h
 ·unfold iP at h
  split at h
  ·cases h
  ·exact hb h
 split at h
 ·exact hb h
 unfold gO at h
 split at h
 ·unfold fW at h
  split at h
  ·cases h
  split at h
  ·cases h
  split at h
  ·cases h
  split at h
  ·split at h
   ·cases h;exact .inr (.inl rfl)
   ·cases h
  ·cases h
 ·unfold fF at h
  split at h
  ·cases h
  split at h
  ·cases h
  split at h
  ·cases h
  split at h
  ·cases h
  split at h
  ·split at h<;>cases h
  ·cases h
theorem Gu{p q f:Str}{b1 b2 b3 b4:Bool}{w u k w' u':Str}{c:Nat}{cs:List Nat}(h:cU p q f b1 b2 b3 b4 w u c=.go k w' u'):runM p q f b1 b2 b3 b4 w u (c::cs)=(k::(runM p q f b1 b2 b3 b4 w' u' cs).1,(runM p q f b1 b2 b3 b4 w' u' cs).2):=by
 show(match cU p q f b1 b2 b3 b4 w u c with | .tQ e=>([],w,u,some e) | .go k w' u'=>(k::(runM p q f b1 b2 b3 b4 w' u' cs).1,(runM p q f b1 b2 b3 b4 w' u' cs).2))=_
 rw[h]
theorem Di{p q f:Str}{b1 b2 b3 b4:Bool}{w u e:Str}{c:Nat}{cs:List Nat}(h:cU p q f b1 b2 b3 b4 w u c=.tQ e):runM p q f b1 b2 b3 b4 w u (c::cs)=([],w,u,some e):=by
 show(match cU p q f b1 b2 b3 b4 w u c with | .tQ e=>([],w,u,some e) | .go k w' u'=>(k::(runM p q f b1 b2 b3 b4 w' u' cs).1,(runM p q f b1 b2 b3 b4 w' u' cs).2))=_
 rw[h]
theorem Ky{p q f:Str}{b1 b2 b3 b4:Bool}{w u e:Str}{cs:List Nat}(h:(runM p q f b1 b2 b3 b4 w u cs).2.2.2=some e):e≠Str.ofString ""/\e≠Str.ofString "cut":=by
 induction cs generalizing w u with
 |nil=>cases h
 |cons c cs ih =>
  cases hs:cU p q f b1 b2 b3 b4 w u c with
  |go k w' u' =>
   rw[Gu hs]at h
   exact ih h
  |tQ e2 =>
   rw[Di hs]at h
   cases h
   rcases Kw hs with rfl|rfl|rfl
   ·exact⟨λz=>absurd (congrArg (λz=>bA z ("line":Str)) z) (by decide +kernel),λz=>absurd (congrArg (λz=>bA z ("line":Str)) z) (by decide +kernel)⟩
   ·exact⟨λz=>absurd (congrArg (λz=>bA z ("quote":Str)) z) (by decide +kernel),λz=>absurd (congrArg (λz=>bA z ("quote":Str)) z) (by decide +kernel)⟩
   ·exact⟨λz=>absurd (congrArg (λz=>bA z ("behind":Str)) z) (by decide +kernel),λz=>absurd (congrArg (λz=>bA z ("behind":Str)) z) (by decide +kernel)⟩
structure B4 where
 a:Bool
 b:Bool
 c:Bool
 d:Bool
def B4.vs(b:B4):List V:=[.bl b.a,.bl b.b,.bl b.c,.bl b.d]
abbrev iK:=Str×Str×Str×B4
def lY(x:iK):List V:=pI x.1 x.2.1 x.2.2.1 x.2.2.2.a x.2.2.2.b x.2.2.2.c x.2.2.2.d
def WW(x:iK):List (Str×V):=Gn x.1 x.2.1 x.2.2.1 x.2.2.2.a x.2.2.2.b x.2.2.2.c x.2.2.2.d
theorem rj{l:List Str}{i:Nat}{e:V}(h:(l.map V.str)[i]?=some e):∃z,l[i]?=some z/\e=.str z:=by
 rw[abM]at h
 cases hz:l[i]? with
 |none=>rw[hz]at h;cases h
 |some z=>rw[hz]at h;exact⟨z,rfl,(abx h).symm⟩
theorem Gv{p q f:Str}{b1 b2 b3 b4:Bool}:∀{cs:List Nat}{w u:Str},(runM p q f b1 b2 b3 b4 w u cs).1.length<=cs.length
 |[],w,u=>abh _
 |c::cs,w,u=>by
  cases hs:cU p q f b1 b2 b3 b4 w u c with
  |go k w' u'=>rw[Gu hs];show _+1<=_+1;exact Nat.succ_le_succ Gv
  |tQ e=>rw[Di hs];exact abW _
abbrev AE(x:iK):Prop:=Gd x.1 x.2.1 x.2.2.1
abbrev CC(H:Hp):List V->List iK->Prop:=Paired λe x=>∃t,e=V.ref t/\H t=some (.tup (lY x))
theorem CC.mono{H H':Hp}(s:aG H H'):∀{es:List V}{xs:List iK},CC H es xs->CC H' es xs
 |_,_,.nil=>.nil
 |_,_,.cons ⟨t,e,h⟩ r=>.cons ⟨t,e,s _ _ h⟩ (CC.mono s r)
abbrev vE(C:Addr)(H:Hp):List V->List iK->Prop:=Paired λe x=>∃y dy,e=V.ref y/\H y=some (.ins C dy (WW x))
theorem vE.mono{C:Addr}{H H':Hp}(s:aG H H'):∀{es:List V}{xs:List iK},vE C H es xs->vE C H' es xs
 |_,_,.nil=>.nil
 |_,_,.cons ⟨y,dy,e,h⟩ r=>.cons ⟨y,dy,e,s _ _ h⟩ (vE.mono s r)
def runC(x:iK)(z:Str):List Str×Str×Str×Option Str:=runM x.1 x.2.1 x.2.2.1 x.2.2.2.a x.2.2.2.b x.2.2.2.c x.2.2.2.d ("row":Str) ("":Str) z.cps.toList
theorem HN{z:Str}{lo hi:Option Int}{c:Nat}(h:c∈(Txt.slice z lo hi).cps.toList):c∈z.cps.toList:=by
 unfold Txt.slice at h
 split at h
 ·exact h
 ·have h:c∈List.filterMap (λx=>z.cps[x]?) (Builtin.Str.strSliceIndices lo hi 1 z.length):=h
  obtain⟨k,_,hk⟩:=List.mem_filterMap.mp h
  exact Array.mem_toList_iff.mpr (Array.mem_of_getElem? hk)
theorem xZ{z:Str}{n:Int}(h0:0<=n):((Txt.slice z none (some n)).length:Int)<=n:=by
 have key:((Builtin.Str.strSliceIndices none (some n) 1 z.length).length:Int)<=n:=by
  unfold Builtin.Str.strSliceIndices sliceRange
  simp only[show(1:Int)>0 by decide,acz,aa9,List.length_range]
  split<;>(try split)<;>(try simp only[Int.ediv_one])<;>omega
 unfold Txt.slice
 split
 ·rename_i e
  have e2:(Builtin.Str.strSliceIndices none (some n) 1 z.length).length=z.length:=by simpa using e
  omega
 ·have:(List.filterMap (λx=>z.cps[x]?) (Builtin.Str.strSliceIndices none (some n) 1 z.length)).toArray.size<=(Builtin.Str.strSliceIndices none (some n) 1 z.length).length:=by
   rw[abg];exact List.length_filterMap_le _ _
  show(((List.filterMap (λx=>z.cps[x]?) (Builtin.Str.strSliceIndices none (some n) 1 z.length)).toArray.size:Nat):Int)<=n
  omega
theorem Dj{z:Str}(g:Sg z):Sg (Txt.slice z none (some 1)):=by
 have h:=xZ (z:=z) (n:=1) 'c'
 have e:(Txt.slice z none (some 1)).cps.toList.length=(Txt.slice z none (some 1)).length:=by rw[abA];rfl
 refine⟨?_,λc hc=>g.pr c (HN hc)⟩
 cases q:(Txt.slice z none (some 1)).cps.toList with
 |nil=>exact List.nodup_nil
 |cons a l =>
  cases l with
  |nil=>simp
  |cons b l=>rw[q]at e;simp only[abF]at e;omega
theorem EK{z:Str}(g:Sg z):Sg (qX z):=by
 have e:(qX z).cps.toList=z.cps.toList.reverse:=by unfold qX;simp
 exact⟨by rw[e];exact List.pairwise_reverse.mpr (List.Pairwise.imp (λh=>acu h) g.nd),λc hc=>g.pr c (by rw[e]at hc;exact List.mem_reverse.mp hc)⟩
theorem Bl(z:Str):(qX z).length=z.length:=by
 have e:(qX z).cps.toList=z.cps.toList.reverse:=by unfold qX;simp
 have:=congrArg List.length e
 rw[List.length_reverse,abA,abA]at this
 exact this
theorem ya{H:Hp}{l:Addr}{o:HO}:∀{es:List V}{xs:List iK},(V.ref l∉es)->CC H es xs->CC (upd H l o) es xs
 |_,_,_,.nil=>.nil
 |_,_,hn,.cons ⟨a,e,h⟩ r=>by
  subst e
  have:a≠l:=λq=>hn (by rw[q];exact abl ..)
  exact .cons ⟨a,rfl,(aH this).trans h⟩ (ya (λq=>hn (abp _ q)) r)
theorem join_list(zs:List Str):(Txt.join ("":Str) zs).cps.toList=zs.flatMap (λz=>z.cps.toList):=by
 have ee:("":Str).cps.toList=[]:=by decide +kernel
 show(Builtin.Str.glued ("":Str) zs).cps.toList=_
 rw[StrLaws.glued_eq_join]
 induction zs with
 |nil=>exact ee
 |cons c cs ih =>
  cases cs with
  |nil =>
   show c.cps.toList=_
   simp
  |cons d cs =>
   show(c++("":Str)++Str.join ("":Str) (d::cs)).cps.toList=_
   rw[app_list,app_list,ee,acq,ih]
   simp[List.flatMap_cons]
theorem Mw{zs:List Str}{m:Nat}(h:∀z∈zs,z.length<=m):(zs.map (·.length)).sum+zs.length*("":Str).length<=m*zs.length:=by
 have e:("":Str).length=0:=by decide +kernel
 rw[e,Nat.mul_zero,Nat.add_zero]
 induction zs with
 |nil=>exact abW _
 |cons z zs ih =>
  have h1:=h z (abl ..)
  have h2:=ih λy hy=>h y (abp _ hy)
  rw[ach,List.sum_cons,abF,Nat.mul_succ]
  omega
theorem Pb{zs:List Str}{m:Nat}(h:∀z∈zs,z.length<=m):(zs.flatMap (λz=>z.cps.toList)).length<=m*zs.length:=by
 induction zs with
 |nil=>exact abW _
 |cons z zs ih =>
  have h1:=h z (abl ..)
  have h2:=ih λy hy=>h y (abp _ hy)
  rw[List.flatMap_cons,abq,abF,Nat.mul_succ,abA]
  have:z.cps.size<=m:=h1
  omega
theorem EL{K:W.Frag}{H:Hp}{n:Nat}{xs:List V}(h:xs.all dN=true):∀(j:Nat) x y,xs[j]?=some x->xs[j]?=some y->qV K H n x y:=λj x y ex ey=>by
 rw[ex]at ey;cases ey
 have:=abK.mp h x (abi ex)
 exact .flat this this (JR this)
theorem rm{α:Type}(f:α->V)(xs:List α)(lo hi:Option Int):∃ys:List α,aZ (xs.map f) lo hi=ys.map f/\ys.length<=xs.length/\∀y∈ys,y∈xs:=by
 refine⟨(xs.drop (HT.yZ (xs.map f).length 0 lo)).take (HT.yZ (xs.map f).length (xs.map f).length hi-HT.yZ (xs.map f).length 0 lo),?_,?_,λy hy=>List.mem_of_mem_drop (acr hy)⟩
 ·unfold aZ;rw[List.map_take,List.map_drop]
 ·rw[abJ,acy];omega
theorem vE.but{C:Addr}{H:Hp}{l:Addr}{o:HO}{ws:List V}(hl:H l=some (.lst ws)):∀{es:List V}{xs:List iK},vE C H es xs->vE C (upd H l o) es xs
 |_,_,.nil=>.nil
 |_,_,.cons ⟨y,dy,e,h⟩ r=>.cons ⟨y,dy,e,(aH (CI h hl (by intro z;cases z))).trans h⟩ (vE.but hl r)
structure N2 where
 rows:List (List Str)
 row:List Str
 cell:Str
def Mx(g:N2)(c:Nat)(k:Str):N2 :=
 if bA k ("put":Str)=true then ⟨g.rows,g.row,g.cell++sg c⟩
 else if bA k ("part":Str)=true then ⟨g.rows,g.row++[g.cell],("":Str)⟩
 else if bA k ("end":Str)=true then ⟨g.rows++[g.row++[g.cell]],[],("":Str)⟩
 else g
def wA:N2->List Nat->List Str->N2
 |g,c::cs,k::ks=>wA (Mx g c k) cs ks
 |g,_,_=>g
def Kz:N2:=⟨[],[],("":Str)⟩
def EM(z:Str)(ks:List Str):List (List Str):=(wA Kz z.cps.toList ks).rows
theorem ug:∀(g:N2)(cs:List Nat)(ks:List Str)(i:Nat)(c:Nat)(k:Str),cs[i]?=some c->ks[i]?=some k->wA g (cs.take (i+1)) (ks.take (i+1))=Mx (wA g (cs.take i) (ks.take i)) c k
 |g,[],_,i,c,k,h,_=>by simp at h
 |g,_::_,[],i,c,k,_,h=>by simp at h
 |g,d::cs,j::ks,0,c,k,h1,h2=>by cases h1;cases h2;rfl
 |g,d::cs,j::ks,i+1,c,k,h1,h2=>by
  show wA (Mx g d j) (cs.take (i+1)) (ks.take (i+1))=Mx (wA (Mx g d j) (cs.take i) (ks.take i)) c k
  exact ug _ cs ks i c k h1 h2
theorem yb:∀(g:N2)(cs:List Nat)(ks:List Str),wA g (cs.take (min cs.length ks.length)) (ks.take (min cs.length ks.length))=wA g cs ks
 |g,[],ks=>by simp[wA]
 |g,_::_,[]=>by simp[wA]
 |g,d::cs,j::ks=>by
  have e:min (d::cs).length (j::ks).length=min cs.length ks.length+1:=by rw[abF,abF];omega
  rw[e]
  exact yb (Mx g d j) cs ks
abbrev jP(H0 H:Hp):List V->List (List Str)->Prop:=Paired λe r=>∃a,e=V.ref a/\H0 a=none/\H a=some (.lst (r.map V.str))
theorem jP.mono{H0 H H':Hp}(s:aG H H'):∀{es:List V}{rs:List (List Str)},jP H0 H es rs->jP H0 H' es rs
 |_,_,.nil=>.nil
 |_,_,.cons ⟨a,e,n,h⟩ r=>.cons ⟨a,e,n,s _ _ h⟩ (jP.mono s r)
theorem jP.but{H0 H:Hp}{l:Addr}{o:HO}:∀{es:List V}{rs:List (List Str)},(V.ref l∉es)->jP H0 H es rs->jP H0 (upd H l o) es rs
 |_,_,_,.nil=>.nil
 |_,_,hn,.cons ⟨a,e,n,h⟩ r=>by
  subst e
  have:a≠l:=λq=>hn (by rw[q];exact abl ..)
  exact .cons ⟨a,rfl,n,(aH this).trans h⟩ (jP.but (λq=>hn (abp _ q)) r)
theorem jP.app{H0 H:Hp}:∀{es es':List V}{rs rs':List (List Str)},jP H0 H es rs->jP H0 H es' rs'->jP H0 H (es++es') (rs++rs')
 |_,_,_,_,.nil,h=>h
 |_,_,_,_,.cons r t,h=>.cons r (jP.app t h)
theorem jP.has{H0 H:Hp}:∀{es:List V}{rs:List (List Str)},jP H0 H es rs->∀{a:Addr},V.ref a∈es->H0 a=none/\∃ys,H a=some (.lst ys)
 |_,_,.nil,_,h=>by cases h
 |_,_,.cons ⟨b,e,n,h⟩ r,a,ha=>by
  rcases abt.mp ha with q|q
  ·subst e;cases q;exact⟨n,_,h⟩
  ·exact jP.has r q
structure WX(H0 H:Hp)(v:V)(T:List (List Str)):Prop where
 ok:∃(l:Addr)(es:List V),v=.ref l/\H0 l=none/\H l=some (.lst es)/\V.ref l∉es/\es.Nodup/\jP H0 H es T
theorem jP.old{H0 H1 H:Hp}(s:aG H0 H1):∀{es:List V}{T:List (List Str)},jP H1 H es T->jP H0 H es T
 |_,_,.nil=>.nil
 |_,_,.cons ⟨a,e,n,h⟩ r=>.cons ⟨a,e,s.free n,h⟩ (jP.old s r)
theorem EN{α:Type}[DecidableEq α]{r r':List α}(h:r.length=r'.length):((List.range r.length).all λj=>decide (r[j]?=r'[j]?))=decide (r=r'):=by
 rw[abS,abK,abU]
 constructor
 ·intro q
  refine List.ext_getElem? λi=>?_
  by_cases hi:i<r.length
  ·exact abT (q i (acJ.mpr hi))
  ·rw[acm 'b',acm 'b']
 ·rintro rfl i _
  exact abo rfl
theorem Mz(z z':Str):Ar (.str z) (.str z')=decide (z=z'):=by
 show(z==z')=_
 rw[abS,beq_iff_eq,abU]
theorem Gw{K:W.Frag}{H:Hp}{a b:Addr}{r r':List Str}(ha:H a=some (.lst (r.map V.str)))(hb:H b=some (.lst (r'.map V.str))):qW K H 1 (.ref a) (.ref b) (decide (r=r')):=by
 by_cases hne:a=b
 ·subst hne
  rw[ha]at hb
  have e:r=r':=by
   have:=HO.lst.inj (abx hb)
   exact(List.map_inj_right (λx y h=>V.str.inj h)).mp this
  rw[abo e]
  exact .same
 by_cases hl:r.length=r'.length
 ·rw[←EN hl]
  have e:r.length=(r.map V.str).length:=(aa9 _).symm
  rw[e]
  refine qW.lst hne (aN.of ha) (aN.of hb) (by rw[aa9,aa9,hl]) λj x y ex ey=>?_
  obtain⟨z,hz,rfl⟩:=rj ex
  obtain⟨z',hz',rfl⟩:=rj ey
  have e2:decide (r[j]?=r'[j]?)=Ar (.str z) (.str z'):=by
   rw[hz,hz',Mz,abS,abU,abU]
   exact⟨λq=>abx q,λq=>by rw[q]⟩
  rw[e2]
  exact .flat rfl rfl
 ·rw[abn (λq=>hl (by rw[q]))]
  exact qW.len hne (aN.of ha) (aN.of hb) (by rw[aa9,aa9];exact hl)
theorem WY{g:N2}{d:Nat}{kd:Str}{c1 c2:Str}{HP:List Str}(h1:(bA kd ("put":Str)=true/\c1=g.cell++sg d)\/(bA kd ("put":Str)=false/\c1=g.cell))(h2:(bA kd ("part":Str)=true/\HP=g.row++[c1]/\c2=("":Str))\/(bA kd ("part":Str)=false/\HP=g.row/\c2=c1)):Mx g d kd=if bA kd ("end":Str)=true then ⟨g.rows++[HP++[c2]],[],("":Str)⟩ else ⟨g.rows,HP,c2⟩:=by
 unfold Mx
 rcases h1 with ⟨p1,rfl⟩|⟨p1,rfl⟩
 ·have ek:=kJ p1
  have n2:bA kd ("part":Str)=false:=by rw[ek];decide +kernel
  have n3:¬bA kd ("end":Str)=true:=by rw[ek];decide +kernel
  rw[abj p1,abb n3]
  rcases h2 with ⟨p2,_⟩|⟨_,rfl,rfl⟩
  ·rw[n2]at p2;cases p2
  ·rfl
 ·rw[abb (by rw[p1];decide)]
  rcases h2 with ⟨p2,rfl,rfl⟩|⟨p2,rfl,rfl⟩
  ·have ek:=kJ p2
   have n3:¬bA kd ("end":Str)=true:=by rw[ek];decide +kernel
   rw[abj p2,abb n3]
  ·rw[abb (by rw[p2];decide)]
abbrev F4:=Nat×Nat×Nat×Str
def Vj:List Nat:=("a7ZbXq9KwM":Str).cps.toList
abbrev Sf(p q f:Str)(b1 b2 b3 b4:Bool)(z:Str):=runM p q f b1 b2 b3 b4 ("row":Str) ("":Str) z.cps.toList
def Gx(c:Nat):Bool:=decide (c=10\/Pn c)
def textOk(z:Str):Bool:=z.cps.toList.all Gx
theorem MA{z:Str}(h:gh z):textOk z=true:=by
 unfold textOk
 rw[abK]
 exact λc hc=>abo (h c hc)
def Pc:V->Bool
 | .str z=>decide (z.length<=2000)&&textOk z
 |_=>false
inductive MB(H:Hp):V->Prop where
 |str (z:Str):MB H (.str z)
 |non:MB H .non
 |bl (b:Bool):MB H (.bl b)
 |int (n:Int):MB H (.int n)
 |lst {a:Addr}{xs:List V}:H a=some (.lst xs)->xs.all dN=true->MB H (.ref a)
 |tup {a:Addr}{xs:List V}:H a=some (.tup xs)->xs.all dN=true->MB H (.ref a)
 |dic {a:Addr}{k:Key}{v:V}:H a=some (.dK [(k,v)])->dN v=true->MB H (.ref a)
theorem MC{a b:Int}:decide (V.int a=V.int b)=decide (a=b):=by
 by_cases h:a=b
 ·rw[h,abo rfl,abo rfl]
 ·rw[abn h,abn λe=>h (by injection e)]
theorem Pd{z:Str}(h:gh z)(h2:z.length<=2000):Pc (.str z)=true:=by
 show(decide (z.length<=2000)&&textOk z)=true
 rw[MA h,abo h2];rfl
theorem HQ{xs:List V}{hi:Option Int}(h:2<=xs.length):(aZ xs (some 2) hi).length<=xs.length-2:=by
 unfold aZ
 have e:HT.yZ xs.length 0 (some 2)=2:=by rw[show(some (2:Int))=some ((2:Nat):Int) from rfl,HT.xy];omega
 rw[e,abJ,acy]
 omega
def CD(r:List Str×Str×Str×Option Str)(z:Str):Option (List (List Str)):=if zq r=("":Str) then some (EM z r.1) else none
def o8(A H:Hp)(v:V):Option (List (List Str))->Prop
 |none=>v=.non
 |some T=>∃l es,v=.ref l/\A l=none/\H l=some (.lst es)/\jP A H es T
theorem o8.mono{A H H':Hp}{v:V}{o:Option (List (List Str))}(s:aG H H')(h:o8 A H v o):o8 A H' v o:=by
 cases o with
 |none=>exact h
 |some T=>obtain⟨l,es,e1,e2,e3,e4⟩:=h;exact⟨l,es,e1,e2,s _ _ e3,jP.mono s e4⟩
abbrev nV(n:Nat):V:=.int (n:Int)
def cV(r:List Nat)(p:Nat):List (List Nat)->List (List Nat)
 |[]=>[[p]]
 |q::qs=>if r.getD (q.headD 0) 0=r.getD p 0 then (q++[p])::qs else q::cV r p qs
def aE(r:List Nat)(ps:List Nat):List (List Nat):=ps.foldl (λa p=>cV r p a) []
theorem yc{r ps:List Nat}{i p:Nat}(h:ps[i]?=some p):aE r (ps.take (i+1))=cV r p (aE r (ps.take i)):=by
 unfold aE
 rw[bw h,List.foldl_append];rfl
theorem rq{r:List Nat}{p:Nat}:∀{qs:List (List Nat)}{q:List Nat},q∈cV r p qs->q=[p]\/q∈qs\/∃q0∈qs,q=q0++[p]
 |[],q,h=>.inl (abf.mp h)
 |q0::qs,q,h=>by
  unfold cV at h
  by_cases e:r.getD (q0.headD 0) 0=r.getD p 0
  ·rw[abj e]at h
   rcases abt.mp h with rfl|h
   ·exact .inr (.inr ⟨q0,abl ..,rfl⟩)
   ·exact .inr (.inl (abp _ h))
  ·rw[abb e]at h
   rcases abt.mp h with rfl|h
   ·exact .inr (.inl (abl ..))
   ·rcases rq h with h|h|⟨q1,h1,h2⟩
    ·exact .inl h
    ·exact .inr (.inl (abp _ h))
    ·exact .inr (.inr ⟨q1,abp _ h1,h2⟩)
theorem oQ{r ps:List Nat}(P:List (List Nat)->Prop)(h0:P [])(hs:∀a p,p∈ps->P a->P (cV r p a)):P (aE r ps):=by
 have key:∀(l:List Nat) a,(∀p∈l,p∈ps)->P a->P (l.foldl (λa p=>cV r p a) a):=by
  intro l
  induction l with
  |nil=>intro a _ h;exact h
  |cons p l ih=>intro a hl h;exact ih _ (λq hq=>hl q (abp _ hq)) (hs a p (hl p (abl ..)) h)
 exact key ps [] (λ_ h=>h) h0
theorem cD{r ps:List Nat}:∀q∈aE r ps,q≠[]/\∀x∈q,x∈ps:=by
 refine oQ (P:=λa=>∀q∈a,q≠[]/\∀x∈q,x∈ps) (λq h=>nomatch h) ?_
 intro a p hp h q hq
 rcases rq hq with rfl|hq|⟨q0,h0,rfl⟩
 ·exact⟨(λe=>nomatch e),λx hx=>by rw[abf.mp hx];exact hp⟩
 ·exact h q hq
 ·refine⟨by simp,λx hx=>?_⟩
  rcases abG.mp hx with hx|hx
  ·exact(h q0 h0).2 x hx
  ·rw[abf.mp hx];exact hp
theorem Gy{r:List Nat}{p:Nat}:∀{qs:List (List Nat)},((cV r p qs).map List.length).sum=(qs.map List.length).sum+1
 |[]=>rfl
 |q0::qs=>by
  unfold cV
  split
  ·simp only[ach,List.sum_cons,abq,abF,List.length_nil];omega
  ·have:=Gy (r:=r) (p:=p) (qs:=qs)
   simp only[ach,List.sum_cons,this];omega
theorem uh{r ps:List Nat}:((aE r ps).map List.length).sum=ps.length:=by
 have key:∀(l:List Nat)(a:List (List Nat)),((l.foldl (λa p=>cV r p a) a).map List.length).sum=(a.map List.length).sum+l.length:=by
  intro l
  induction l with
  |nil=>intro a;rfl
  |cons p l ih =>
   intro a
   show((l.foldl (λa p=>cV r p a) (cV r p a)).map List.length).sum=_
   rw[ih,Gy,abF];omega
 have:=key ps []
 rw[show(([]:List (List Nat)).map List.length).sum=0 from rfl,Nat.zero_add]at this
 exact this
theorem Bm{q:List Nat}:∀{l:List (List Nat)},q∈l->q.length<=(l.map List.length).sum
 |[],h=>by cases h
 |c::l,h=>by
  rw[ach,List.sum_cons]
  rcases abt.mp h with rfl|h
  ·omega
  ·have:=Bm h;omega
theorem Pe{q:List Nat}:∀{qs:List (List Nat)},q∈qs->1<qs.length->(∀x∈qs,x≠[])->q.length<(qs.map List.length).sum
 |a::b::l,h,_,hn=>by
  have hb:=abX.mpr (hn b (abp _ (abl ..)))
  have ha:=abX.mpr (hn a (abl ..))
  have e:((a::b::l).map List.length).sum=a.length+(b.length+(l.map List.length).sum):=by simp
  rw[e]
  rcases abt.mp h with rfl|h
  ·omega
  rcases abt.mp h with rfl|h
  ·omega
  have:=Bm h
  omega
theorem KA{r ps q:List Nat}(h:1<(aE r ps).length)(hq:q∈aE r ps):q.length<ps.length:=by
 have:=Pe hq h λx hx=>(cD x hx).1
 rw[uh]at this
 exact this
theorem iw{r ps:List Nat}:(aE r ps).length<=ps.length:=by
 have key:∀qs:List (List Nat),(∀x∈qs,x≠[])->qs.length<=(qs.map List.length).sum:=by
  intro qs
  induction qs with
  |nil=>intro _;exact abh _
  |cons a l ih =>
   intro h
   have:=ih λx hx=>h x (abp _ hx)
   have ha:=abX.mpr (h a (abl ..))
   rw[ach,List.sum_cons,abF];omega
 have:=key (aE r ps) λx hx=>(cD x hx).1
 rw[uh]at this
 exact this
theorem jQ{r ps q:List Nat}(hq:q∈aE r ps):q.length<=ps.length:=by
 have:=Bm hq
 rw[uh]at this
 exact this
def qz(r:List Nat)(p:Nat)(Z:List (V×List Nat)):List V:=(Z.filter λx=>decide (r.getD (x.2.headD 0) 0=r.getD p 0)).map Prod.fst
theorem Dk{r:List Nat}{p j:Nat}{Z:List (V×List Nat)}{x:V×List Nat}(h:Z[j]?=some x):qz r p (Z.take (j+1))=if r.getD (x.2.headD 0) 0=r.getD p 0 then qz r p (Z.take j)++[x.1] else qz r p (Z.take j):=by
 unfold qz
 rw[bw h,List.filter_append,List.filter_cons]
 by_cases e:r.getD (x.2.headD 0) 0=r.getD p 0
 ·rw[abj (abo e),abj e,abw];rfl
 ·rw[abb (by rw[abn e];decide),abb e,List.filter_nil,acq]
theorem Gz{r:List Nat}{p:Nat}{Z:List (V×List Nat)}:(qz r p Z).length<=Z.length:=by
 unfold qz;rw[aa9];exact List.length_filter_le _ _
theorem um{r:List Nat}{p:Nat}:∀{es:List V}{qs:List (List Nat)},es.length=qs.length->(qz r p (es.zip qs)=[]/\cV r p qs=qs++[[p]])\/∃e ws j q,qz r p (es.zip qs)=e::ws/\es[j]?=some e/\qs[j]?=some q/\cV r p qs=qs.set j (q++[p])
 |[],[],_=>.inl ⟨rfl,rfl⟩
 |e::es,q::qs,h=>by
  by_cases c:r.getD (q.headD 0) 0=r.getD p 0
  ·refine .inr ⟨e,qz r p (es.zip qs),0,q,?_,rfl,rfl,?_⟩
   ·unfold qz
    rw[List.zip_cons_cons,List.filter_cons,abj (abo c)];rfl
   ·unfold cV;rw[abj c];rfl
  ·have e1:qz r p ((e::es).zip (q::qs))=qz r p (es.zip qs):=by
    unfold qz
    rw[List.zip_cons_cons,List.filter_cons,abb (by rw[abn c];decide)]
   have e2:cV r p (q::qs)=q::cV r p qs:=by rw[show cV r p (q::qs)=if r.getD (q.headD 0) 0=r.getD p 0 then (q++[p])::qs else q::cV r p qs from rfl,abb c]
   rw[e1,e2]
   rcases um (r:=r) (p:=p) (es:=es) (qs:=qs) (by simpa using h) with ⟨a,b⟩|⟨e',ws,j,q',a,b,c',d⟩
   ·exact .inl ⟨a,by rw[b];rfl⟩
   ·exact .inr ⟨e',ws,j+1,q',a,b,c',by rw[d];rfl⟩
 |[],_::_,h=>by simp at h
 |_::_,[],h=>by simp at h
abbrev bg(A H:Hp):List V->List (List Nat)->Prop:=Paired λe p=>∃a,e=V.ref a/\A a=none/\H a=some (.lst (p.map nV))
theorem bg.mono{A H H':Hp}(s:aG H H'):∀{es:List V}{qs:List (List Nat)},bg A H es qs->bg A H' es qs
 |_,_,.nil=>.nil
 |_,_,.cons ⟨a,e,n,h⟩ r=>.cons ⟨a,e,n,s _ _ h⟩ (bg.mono s r)
theorem bg.but{A H:Hp}{l:Addr}{o:HO}:∀{es:List V}{qs:List (List Nat)},V.ref l∉es->bg A H es qs->bg A (upd H l o) es qs
 |_,_,_,.nil=>.nil
 |_,_,hn,.cons ⟨a,e,n,h⟩ r=>.cons ⟨a,e,n,(aH (λq=>hn (by rw[e,q];exact abl ..))).trans h⟩ (bg.but (λq=>hn (abp _ q)) r)
theorem bg.Pf{A H:Hp}{a:Addr}{q':List Nat}:∀{es:List V}{qs:List (List Nat)}{j:Nat},bg A H es qs->es.Nodup->es[j]?=some (.ref a)->bg A (upd H a (.lst (q'.map nV))) es (qs.set j q')
 |_,_,0,.cons ⟨b,e,n,h⟩ r,nd,hj=>by
  subst e
  have e:b=a:=V.ref.inj (abx hj)
  subst e
  rw[acg]at nd
  exact .cons ⟨b,rfl,n,ai⟩ (bg.but nd.1 r)
 |_,_,j+1,.cons ⟨b,e,n,h⟩ r,nd,hj=>by
  subst e
  rw[acg]at nd
  have hj:_=some (V.ref a):=hj
  refine .cons ⟨b,rfl,n,(aH λq=>nd.1 ?_).trans h⟩ (bg.Pf r nd.2 hj)
  rw[q];exact abi hj
abbrev wB(H:Hp):List V->List (List Nat)->Prop:=Paired λe r=>∃a,e=V.ref a/\H a=some (.lst (r.map nV))
theorem wB.mono{H H':Hp}(s:aG H H'):∀{es:List V}{qs:List (List Nat)},wB H es qs->wB H' es qs
 |_,_,.nil=>.nil
 |_,_,.cons ⟨a,e,h⟩ r=>.cons ⟨a,e,s _ _ h⟩ (wB.mono s r)
def cM(R:List (List Nat))(ps:List Nat):Bool:=R.all λr=>decide ((aE r ps).length<2)
inductive PT where
 |leaf (ps:List Nat)
 |ask (i:Nat) (bs:List PT)
theorem HR{R:List (List Nat)}{ps:List Nat}(h:¬cM R ps=true):∃r∈R,1<(aE r ps).length:=by
 refine Classical.byContradiction λq=>h ?_
 unfold cM
 rw[abK]
 intro r hr
 refine abo ?_
 refine Nat.lt_of_not_le λhl=>q ⟨r,hr,hl⟩
def eU(A H:Hp):Nat->V->PT->Prop
 |_,v,.leaf ps=>∃t l,v=.ref t/\A t=none/\A l=none/\H t=some (.tup [.str 'd',.ref l])/\H l=some (.lst (ps.map nV))
 |n+1,v,.ask i bs=>∃t l es,v=.ref t/\A t=none/\A l=none/\H t=some (.tup [.str 'e',nV i,.ref l])/\H l=some (.lst es)/\Paired (eU A H n) es bs
 | 0,_,.ask _ _=>False
theorem eU.mono{A H H':Hp}(s:aG H H'):∀{n:Nat}{v:V}{t:PT},eU A H n v t->eU A H' n v t
 | 0,_,.leaf ps,⟨t,l,a,b,c,d,e⟩=>⟨t,l,a,b,c,s _ _ d,s _ _ e⟩
 |n+1,_,.leaf ps,⟨t,l,a,b,c,d,e⟩=>⟨t,l,a,b,c,s _ _ d,s _ _ e⟩
 |n+1,_,.ask i bs,⟨t,l,es,a,b,c,d,e,f⟩=>⟨t,l,es,a,b,c,s _ _ d,s _ _ e,aQ (λ_ _ h=>eU.mono s h) f⟩
theorem eU.old{A B H:Hp}(f:∀b,B b=none->A b=none):∀{n:Nat}{v:V}{t:PT},eU B H n v t->eU A H n v t
 | 0,_,.leaf ps,⟨t,l,a,b,c,d,e⟩=>⟨t,l,a,f _ b,f _ c,d,e⟩
 |n+1,_,.leaf ps,⟨t,l,a,b,c,d,e⟩=>⟨t,l,a,f _ b,f _ c,d,e⟩
 |n+1,_,.ask i bs,⟨t,l,es,a,b,c,d,e,g⟩=>⟨t,l,es,a,f _ b,f _ c,d,e,aQ (λ_ _ h=>eU.old f h) g⟩
inductive Th where
 |at (v:V)
 |tup (ts:List Th)
 |lst (ts:List Th)
def RT(H:Hp):Nat->V->Th->Prop
 |_,v,.at w=>v=w/\dN w=true
 |n+1,v,.tup ts=>∃a es,v=.ref a/\H a=some (.tup es)/\Paired (RT H n) es ts
 |n+1,v,.lst ts=>∃a es,v=.ref a/\H a=some (.lst es)/\Paired (RT H n) es ts
 | 0,_,.tup _=>False
 | 0,_,.lst _=>False
theorem RT.mono{H H':Hp}(s:aG H H'):∀{n:Nat}{v:V}{t:Th},RT H n v t->RT H' n v t
 | 0,_,.at w,h=>h
 |n+1,_,.at w,h=>h
 |n+1,_,.tup ts,⟨a,es,e,b,r⟩=>⟨a,es,e,s _ _ b,aQ (λ_ _ h=>RT.mono s h) r⟩
 |n+1,_,.lst ts,⟨a,es,e,b,r⟩=>⟨a,es,e,s _ _ b,aQ (λ_ _ h=>RT.mono s h) r⟩
theorem RT.yd{H:Hp}{n:Nat}{v w:V}(h:RT H n v (.at w)):v=w/\dN w=true:=by cases n<;>exact h
theorem RT.ye{H:Hp}{n:Nat}{v w:V}(h:v=w/\dN w=true):RT H n v (.at w):=by cases n<;>exact h
theorem RT.up{H:Hp}:∀{n m:Nat}{v:V}{t:Th},n<=m->RT H n v t->RT H m v t
 |_,_,_,.at w,_,h=>RT.ye (RT.yd h)
 |n+1,m+1,_,.tup ts,l,⟨a,es,e,b,r⟩=>⟨a,es,e,b,aQ (λ_ _ h=>RT.up 'b' h) r⟩
 |n+1,m+1,_,.lst ts,l,⟨a,es,e,b,r⟩=>⟨a,es,e,b,aQ (λ_ _ h=>RT.up 'b' h) r⟩
 |n+1,0,_,.tup _,l,_=>by omega
 |n+1,0,_,.lst _,l,_=>by omega
def gP:Th->Int->Int->Bool
 | .at (.int n),a,b=>decide (a<=n/\n<=b)
 |_,_,_=>false
def fQ(t:Th)(ps:List Nat):Bool:=match t with
 | .lst ts=>decide (ts.length=ps.length)&&(ts.zip ps).all λx=>gP x.1 x.2 x.2
 |_=>false
def o9(f:List Nat->Th->Bool)(R:List (List Nat))(ps:List Nat):Th->Th->Bool
 | .at (.int i),.lst bs=>decide (0<=i/\i<=(R.length:Int)-1)&&(!bs.isEmpty&&(decide (bs.length=(aE (R.getD i.toNat []) ps).length)&&((aE (R.getD i.toNat []) ps).zip bs).all λx=>f x.1 x.2))
 |_,_=>false
def bK(R:List (List Nat)):Nat->List Nat->Th->Bool
 |d+1,ps,.tup [.at (.str w),b]=>bA w 'd'&&(fQ b ps&&cM R ps)
 |d+1,ps,.tup [.at (.str w),b,c]=>bA w 'e'&&o9 (bK R d) R ps b c
 |_,_,_=>false
theorem lZ{ps:List Nat}{i:Nat}{e:V}(h:(ps.map nV)[i]?=some e):∃p,ps[i]?=some p/\e=nV p:=by
 rw[abM]at h
 cases q:ps[i]? with
 |none=>rw[q]at h;cases h
 |some p=>rw[q]at h;cases h;exact⟨p,rfl,rfl⟩
theorem Sh{r:List Nat}{p:Nat}(h:p<r.length):(r.map nV)[p]?=some (nV (r.getD p 0)):=by
 rw[abM,abk h]
 show some (nV _)=_
 rw[abV,abk h];rfl
def Si:Th->Bool
 | .lst _=>true
 |_=>false
def WZ:Th->Bool
 | .tup _=>true
 |_=>false
def W0:Th->Bool
 | .at (.str _)=>true
 |_=>false
theorem RT.kind(K:W.Frag){H:Hp}{n:Nat}{v:V}{t:Th}(h:RT H n v t):∃ty,qp K H v ty/\W.kitOne K ty (.type "list")=some (Si t)/\W.kitOne K ty (.type "tuple")=some (WZ t)/\W.kitOne K ty (.type "str")=some (W0 t):=by
 cases t with
 |«at» w =>
  obtain⟨rfl,f⟩:=RT.yd h
  cases v with
  |non=>exact⟨_,.non,rfl,rfl,rfl⟩
  |bl b=>exact⟨_,.bl b,rfl,rfl,rfl⟩
  |int i=>exact⟨_,.int i,rfl,rfl,rfl⟩
  |str z=>exact⟨_,.str z,rfl,rfl,rfl⟩
  |_=>cases f
 |tup ts =>
  cases n with
  |zero=>exact h.elim
  |succ n=>obtain⟨a,es,rfl,ha,_⟩:=h;exact⟨_,.tup ha,rfl,rfl,rfl⟩
 |lst ts =>
  cases n with
  |zero=>exact h.elim
  |succ n=>obtain⟨a,es,rfl,ha,_⟩:=h;exact⟨_,.lst ha,rfl,rfl,rfl⟩
theorem RT.three{H:Hp}{n:Nat}{v:V}{t:Th}(h:RT H n v t):(∃m a es ts,n=m+1/\v=V.ref a/\t=.lst ts/\H a=some (.lst es)/\Paired (RT H m) es ts)\/(∃m a es ts,n=m+1/\v=V.ref a/\t=.tup ts/\H a=some (.tup es)/\Paired (RT H m) es ts)\/(t=.at v/\dN v=true):=by
 cases t with
 |«at» w=>obtain⟨rfl,f⟩:=RT.yd h;exact .inr (.inr ⟨rfl,f⟩)
 |tup ts =>
  cases n with
  |zero=>exact h.elim
  |succ n=>obtain⟨a,es,e,ha,p⟩:=h;exact .inr (.inl ⟨n,a,es,ts,rfl,e,rfl,ha,p⟩)
 |lst ts =>
  cases n with
  |zero=>exact h.elim
  |succ n=>obtain⟨a,es,e,ha,p⟩:=h;exact .inl ⟨n,a,es,ts,rfl,e,rfl,ha,p⟩
theorem eU.set{A H:Hp}{l:Addr}{ob:HO}(hl:A l≠none):∀{n:Nat}{v:V}{t:PT},eU A H n v t->eU A (upd H l ob) n v t
 | 0,_,.leaf ps,⟨t,l',a,b,c,d,e⟩=>⟨t,l',a,b,c,(aH (λq=>hl (by rw[←q];exact b))).trans d,(aH (λq=>hl (by rw[←q];exact c))).trans e⟩
 |n+1,_,.leaf ps,⟨t,l',a,b,c,d,e⟩=>⟨t,l',a,b,c,(aH (λq=>hl (by rw[←q];exact b))).trans d,(aH (λq=>hl (by rw[←q];exact c))).trans e⟩
 |n+1,_,.ask i bs,⟨t,l',es,a,b,c,d,e,g⟩=>⟨t,l',es,a,b,c,(aH (λq=>hl (by rw[←q];exact b))).trans d,(aH (λq=>hl (by rw[←q];exact c))).trans e,aQ (λ_ _ h=>eU.set hl h) g⟩
def uo(ps:List Nat):Th:=.tup [.at (.str 'd'),.lst (ps.map λp=>.at (nV p))]
def kK:Nat->PT->Th
 |_,.leaf ps=>uo ps
 | 0,.ask _ _=>.at .non
 |n+1,.ask i bs=>.tup [.at (.str 'e'),.at (nV i),.lst (bs.map (kK n))]
theorem oR{H:Hp}{n:Nat}:∀{ps:List Nat},Paired (RT H n) (ps.map nV) (ps.map λp=>Th.at (nV p))
 |[]=>.nil
 |_::_=>.cons (RT.ye ⟨rfl,rfl⟩) oR
theorem eU.rt{A H:Hp}:∀{n:Nat}{v:V}{T:PT},eU A H n v T->RT H (2*n+2) v (kK n T)
 | 0,_,.leaf ps,⟨t,l,e,_,_,a,b⟩=>⟨t,_,e,a,.cons (RT.ye ⟨rfl,rfl⟩) (.cons ⟨l,_,rfl,b,oR⟩ .nil)⟩
 |n+1,_,.leaf ps,⟨t,l,e,_,_,a,b⟩=>⟨t,_,e,a,.cons (RT.ye ⟨rfl,rfl⟩) (.cons ⟨l,_,rfl,b,oR⟩ .nil)⟩
 |n+1,_,.ask i bs,⟨t,l,es,e,_,_,a,b,p⟩=>by
  refine⟨t,_,e,a,.cons (RT.ye ⟨O,O⟩) (.cons (RT.ye ⟨O,O⟩) (.cons ⟨l,es,O,b,?_⟩ .nil))⟩
  have:∀{es:List V}{bs:List PT},Paired (eU A H n) es bs->Paired (RT H (2*n+2)) es (bs.map (kK n)):=by
   intro es bs h
   induction h with
   |nil=>exact .nil
   |cons a _ ih=>exact .cons a.rt ih
  exact this p
theorem uq{f:List Nat->Th->Bool}{R:List (List Nat)}{ps:List Nat}{t u:Th}(h:gP t 0 ((R.length:Int)-1)=false):o9 f R ps t u=false:=by
 cases t with
 |«at» v =>
  cases v with
  |int i =>
   cases u with
   |lst bs =>
    have h:decide (0<=i/\i<=(R.length:Int)-1)=false:=h
    show(decide (0<=i/\i<=(R.length:Int)-1)&&_)=false
    rw[h,ab0]
   |_=>rfl
  |_=>cases u<;>rfl
 |_=>cases u<;>rfl
theorem Bo{f:List Nat->Th->Bool}{R:List (List Nat)}{ps:List Nat}{t u:Th}(h:Si u=false):o9 f R ps t u=false:=by
 cases u with
 |lst bs=>cases h
 |_ =>
  cases t with
  |«at» v=>cases v<;>rfl
  |_=>rfl
theorem HS{t:Th}{n:Nat}(h:gP t 0 ((n:Int)-1)=true):∃i:Nat,t=.at (.int (i:Int))/\i<n:=by
 cases t with
 |«at» v =>
  cases v with
  |int i =>
   have h:decide (0<=i/\i<=(n:Int)-1)=true:=h
   have h:=abT h
   exact⟨i.toNat,by rw[Int.toNat_of_nonneg h.1],by omega⟩
  |_=>cases h
 |_=>cases h
theorem nK{f:List Nat->Th->Bool}{R:List (List Nat)}{ps:List Nat}{i:Nat}{ts:List Th}(h:i<R.length):o9 f R ps (.at (.int (i:Int))) (.lst ts)=(!ts.isEmpty&&(decide (ts.length=(aE (R.getD i []) ps).length)&&((aE (R.getD i []) ps).zip ts).all λx=>f x.1 x.2)):=by
 show(decide (0<=(i:Int)/\(i:Int)<=(R.length:Int)-1)&&_)=_
 rw[abo (show 0<=(i:Int)/\(i:Int)<=(R.length:Int)-1 by omega),abR,Int.toNat_natCast]
theorem jx{R:List (List Nat)}{d:Nat}{ps:List Nat}{t:Th}(h:WZ t=false):bK R d ps t=false:=by
 cases t with
 |tup ts=>cases h
 |_=>cases d<;>rfl
theorem rA{R:List (List Nat)}{d:Nat}{ps:List Nat}{ts:List Th}(h:ts.length<2):bK R d ps (.tup ts)=false:=by
 match ts,h with
 |[],_=>cases d<;>rfl
 |[a],_ =>
  cases d with
  |zero=>rfl
  |succ d =>
   cases a with
   |«at» v=>cases v<;>rfl
   |_=>rfl
 |_::_::_,h=>simp at h;omega
theorem Dm{R:List (List Nat)}{d:Nat}{ps:List Nat}{x:Th}{ts:List Th}(h:W0 x=false):bK R d ps (.tup (x::ts))=false:=by
 cases x with
 |«at» v =>
  cases v with
  |str z=>cases h
  |_=>cases d<;>rcases ts with _|⟨_,_|⟨_,_|_⟩⟩<;>rfl
 |_=>cases d<;>rcases ts with _|⟨_,_|⟨_,_|_⟩⟩<;>rfl
theorem oS{R:List (List Nat)}{d:Nat}{ps:List Nat}{w:Str}{b:Th}:bK R (d+1) ps (.tup [.at (.str w),b])=(bA w 'd'&&(fQ b ps&&cM R ps)):=rfl
theorem iB{R:List (List Nat)}{d:Nat}{ps:List Nat}{w:Str}{b c:Th}:bK R (d+1) ps (.tup [.at (.str w),b,c])=(bA w 'e'&&o9 (bK R d) R ps b c):=rfl
theorem xD{R:List (List Nat)}{d:Nat}{ps:List Nat}{w:Str}{ts:List Th}(h:ts.length≠1/\ts.length≠2):bK R d ps (.tup (.at (.str w)::ts))=false:=by
 match ts,h with
 |[],_=>cases d<;>rfl
 |[a],h=>exact absurd rfl h.1
 |[a,b],h=>exact absurd rfl h.2
 |_::_::_::_,_=>cases d<;>rfl
theorem bg.set{A H:Hp}{l:Addr}{o:HO}(hl:A l≠none):∀{es:List V}{qs:List (List Nat)},bg A H es qs->bg A (upd H l o) es qs
 |_,_,.nil=>.nil
 |_,_,.cons ⟨a,e,n,h⟩ r=>.cons ⟨a,e,n,(aH (λq=>hl (by rw[←q];exact n))).trans h⟩ (bg.set hl r)
theorem bg.rdg{A H:Hp}:∀{es:List V}{qs:List (List Nat)},bg A H es qs->wB H es qs
 |_,_,.nil=>.nil
 |_,_,.cons ⟨a,e,_,h⟩ r=>.cons ⟨a,e,h⟩ (bg.rdg r)
def nM(cs:List iK)(z:Str):List (Option (List (List Str))):=cs.map λx=>CD (runC x z) z
def ur{α:Type}[DecidableEq α](x:α):List α->Nat
 |[]=>0
 |y::l=>if y=x then 0 else ur x l+1
def readM{α:Type}[DecidableEq α](ts:List α):List Nat:=ts.map λt=>ur t ts
abbrev Rds(A H:Hp):List V->List (Option (List (List Str)))->Prop:=Paired (o8 A H)
theorem o8.old{A B H:Hp}{v:V}{o:Option (List (List Str))}(f:∀b,B b=none->A b=none)(h:o8 B H v o):o8 A H v o:=by
 cases o with
 |none=>exact h
 |some T=>obtain⟨l,es,e1,e2,e3,e4⟩:=h;exact⟨l,es,e1,f _ e2,e3,aQ (λa b ⟨c,q1,q2,q3⟩=>⟨c,q1,f _ q2,q3⟩) e4⟩
theorem o8.set{A H:Hp}{v:V}{o:Option (List (List Str))}{l:Addr}{ob:HO}(hl:A l≠none)(h:o8 A H v o):o8 A (upd H l ob) v o:=by
 cases o with
 |none=>exact h
 |some T=>obtain⟨m,es,e1,e2,e3,e4⟩:=h;exact⟨m,es,e1,e2,(aH (λq=>hl (by rw[←q];exact e2))).trans e3,aQ (λa b ⟨c,q1,q2,q3⟩=>⟨c,q1,q2,(aH (λq=>hl (by rw[←q];exact q2))).trans q3⟩) e4⟩
theorem yf{A B H:Hp}:∀{es:List V}{T T':List (List Str)},jP A H es T->jP B H es T'->T=T'
 |_,_,_,.nil,.nil=>rfl
 |_,_,_,.cons ⟨a,e,_,h⟩ r,.cons ⟨b,e',_,h'⟩ r'=>by
  subst e
  cases e'
  rw[h]at h'
  have q:=(List.map_inj_right (λx y h=>V.str.inj h)).mp (HO.lst.inj (abx h'))
  rw[q,yf r r']
theorem KC{K:W.Frag}{A B H:Hp}{v w:V}{o o':Option (List (List Str))}(h1:o8 A H v o)(h2:o8 B H w o'):zo K H v w (decide (o=o')):=by
 cases o with
 |none =>
  cases h1
  cases o' with
  |none=>cases h2;rw[abo rfl];exact .cmp (n:=0) 'c' (.flat rfl rfl)
  |some T =>
   obtain⟨l,es,rfl,_,e3,_⟩:=h2
   rw[abn (by intro z;cases z)]
   exact .nl (aN.of e3)
 |some T =>
  obtain⟨l,es,rfl,_,e3,e4⟩:=h1
  cases o' with
  |none =>
   cases h2
   rw[abn (by intro z;cases z)]
   exact .ln (aN.of e3)
  |some T' =>
   obtain⟨l',es',rfl,_,Ja,N4⟩:=h2
   have e:decide (some T=some T')=decide (T=T'):=by
    by_cases h:T=T'
    ·rw[h,abo rfl,abo rfl]
    ·rw[abn h,abn λz=>h (abx z)]
   rw[e]
   refine .cmp (n:=2) 'c' ?_
   by_cases ne:l=l'
   ·subst ne
    rw[e3]at Ja
    have Ja:=HO.lst.inj (abx Ja)
    subst Ja
    have:T=T':=yf e4 N4
    rw[abo this]
    exact .same
   have l1:=e4.length
   have l2:=N4.length
   by_cases hl:T.length=T'.length
   ·rw[←EN hl,←l1]
    refine qW.lst ne (aN.of e3) (aN.of Ja) 'b' λj x y ex ey=>?_
    obtain⟨r,hr,a,rfl,_,ha⟩:=aI e4 j x ex
    obtain⟨r',hr',b,rfl,_,hb⟩:=aI N4 j y ey
    have e2:decide (T[j]?=T'[j]?)=decide (r=r'):=by
     rw[hr,hr',abS,abU,abU]
     exact⟨λq=>abx q,λq=>by rw[q]⟩
    rw[e2]
    exact Gw ha hb
   ·rw[abn (λq=>hl (by rw[q]))]
    exact qW.len ne (aN.of e3) (aN.of Ja) 'b'
theorem Bp{α:Type}[DecidableEq α]{x:α}:∀{l:List α},x∈l->ur x l<l.length/\l[ur x l]?=some x
 |y::l,h=>by
  unfold ur
  by_cases e:y=x
  ·rw[abj e,e];exact⟨by simp,rfl⟩
  ·have h2:x∈l:=by
    rcases abt.mp h with q|q
    ·exact absurd q.symm e
    ·exact q
   rw[abb e]
   have:=Bp h2
   exact⟨by simp;omega,this.2⟩
theorem KD{α:Type}[DecidableEq α]{x:α}:∀{l:List α}{i:Nat},i<ur x l->l[i]?≠some x
 |[],i,h=>by simp
 |y::l,i,h=>by
  unfold ur at h
  by_cases e:y=x
  ·rw[abj e]at h;omega
  ·rw[abb e]at h
   cases i with
   |zero=>intro q;exact e (abx q)
   |succ i=>exact KD (l:=l) 'b'
theorem MD{A B H:Hp}{v:V}{o o':Option (List (List Str))}(h:o8 A H v o)(h':o8 B H v o'):o=o':=by
 cases o with
 |none =>
  cases h
  cases o' with
  |none=>rfl
  |some T=>obtain⟨l,_,e,_⟩:=h';cases e
 |some T =>
  obtain⟨l,es,rfl,_,e3,e4⟩:=h
  cases o' with
  |none=>cases h'
  |some T' =>
   obtain⟨l',es',e,_,Ja,N4⟩:=h'
   cases e
   rw[e3]at Ja
   cases HO.lst.inj (abx Ja)
   rw[yf e4 N4]
noncomputable def Pg(A H:Hp)(o:Option (List (List Str)))(z:V):Bool:=@decide (o8 A H z o) (Classical.propDecidable _)
theorem Bq{A H:Hp}{o o':Option (List (List Str))}{z:V}(h:o8 A H z o'):Pg A H o z=decide (o'=o):=by
 unfold Pg
 by_cases e:o'=o
 ·subst e;rw[abo rfl];exact@decide_eq_true _ (Classical.propDecidable _) h
 ·rw[abn e];exact@decide_eq_false _ (Classical.propDecidable _) λq=>e (MD h q)
def gi(cs:List iK)(zs:List Str):List (List Nat):=zs.map λz=>readM (nM cs z)
theorem ME{cs:List iK}{zs:List Str}:∀r∈gi cs zs,r.length=cs.length:=λr hr=>by
 obtain⟨z,_,rfl⟩:=List.mem_map.mp hr
 unfold readM nM
 rw[aa9,aa9]
theorem Dn{n:Nat}:HA 0 ((n:Int)).toNat=(List.range n).map nV:=by
 unfold HA
 rw[Int.toNat_natCast]
 refine List.map_congr_left λi _=>?_
 show V.int _=V.int (i:Int)
 rw[Int.zero_add]
theorem Ph{K:W.Frag}{A B H:Hp}{v w:V}{o o':Option (List (List Str))}(h1:o8 A H v o)(h2:o8 B H w o'):TopE K H v w (decide (o=o')):=by
 cases o with
 |none =>
  cases h1
  cases o' with
  |none=>cases h2;exact .nn
  |some T =>
   obtain⟨l,es,rfl,_,e3,_⟩:=h2
   rw[abn (by intro z;cases z)]
   exact .nl (aN.of e3)
 |some T =>
  obtain⟨l,es,rfl,_,e3,e4⟩:=h1
  cases o' with
  |none =>
   cases h2
   rw[abn (by intro z;cases z)]
   exact .ln (aN.of e3)
  |some T' =>
   obtain⟨l',es',rfl,_,Ja,N4⟩:=h2
   have e:decide (some T=some T')=decide (T=T'):=by
    by_cases h:T=T'
    ·rw[h,abo rfl,abo rfl]
    ·rw[abn h,abn λz=>h (abx z)]
   rw[e]
   have l1:=e4.length
   have l2:=N4.length
   by_cases hl:T.length=T'.length
   ·rw[←EN hl,←l1]
    refine TopE.lst (aN.of e3) (aN.of Ja) 'b' λj x y ex ey=>?_
    obtain⟨r,hr,a,rfl,_,ha⟩:=aI e4 j x ex
    obtain⟨r',hr',b,rfl,_,hb⟩:=aI N4 j y ey
    have e2:decide (T[j]?=T'[j]?)=decide (r=r'):=by
     rw[hr,hr',abS,abU,abU]
     exact⟨λq=>abx q,λq=>by rw[q]⟩
    rw[e2]
    exact .cmp (n:=1) 'c' (Gw ha hb)
   ·rw[abn (λq=>hl (by rw[q]))]
    exact TopE.len (aN.of e3) (aN.of Ja) 'b'
abbrev yg(A H:Hp)(zs:List Str)(e:V)(x:iK):Prop:=∃a es,e=V.ref a/\H a=some (.lst es)/\Paired (λv z=>o8 A H v (CD (runC x z) z)) es zs
abbrev nh(A H:Hp)(zs:List Str):List V->List iK->Prop:=Paired (yg A H zs)
theorem yg.mono{A H H':Hp}{zs:List Str}{e:V}{x:iK}(s:aG H H')(h:yg A H zs e x):yg A H' zs e x:=by
 obtain⟨a,es,e1,e2,e3⟩:=h
 exact⟨a,es,e1,s _ _ e2,aQ (λ_ _ q=>o8.mono s q) e3⟩
theorem nh.mono{A H H':Hp}{zs:List Str}{fX:List V}{cs:List iK}(s:aG H H')(h:nh A H zs fX cs):nh A H' zs fX cs:=aQ (λ_ _ q=>yg.mono s q) h
def Vr(zs:List Str)(x y:iK)(j:Nat):Bool:=match zs[j]? with
 |some z=>decide (CD (runC x z) z=CD (runC y z) z)
 |none=>true
theorem EO{zs:List Str}{x y:iK}{j:Nat}{z:Str}(h:zs[j]?=some z):Vr zs x y j=decide (CD (runC x z) z=CD (runC y z) z):=by unfold Vr;rw[h]
theorem GG{K:W.Frag}{A H:Hp}{zs:List Str}{v w:V}{x y:iK}(h1:yg A H zs v x)(h2:yg A H zs w y):TopE K H v w ((List.range zs.length).all (Vr zs x y)):=by
 obtain⟨a,es,rfl,ha,pa⟩:=h1
 obtain⟨b,fs,rfl,hb,pb⟩:=h2
 have l1:=pa.length
 have l2:=pb.length
 rw[←l1]
 refine TopE.lst (aN.of ha) (aN.of hb) 'b' λj u w eu ew=>?_
 obtain⟨z,hz,r1⟩:=aI pa j u eu
 obtain⟨z',hz',r2⟩:=aI pb j w ew
 rw[hz]at hz';cases hz'
 rw[EO hz]
 exact KC r1 r2
theorem MF{α:Type}[DecidableEq α]{x y:α}{l:List α}(hx:x∈l)(hy:y∈l):ur x l=ur y l↔x=y:=by
 refine⟨λe=>?_,λe=>by rw[e]⟩
 have h1:=(Bp hx).2
 have h2:=(Bp hy).2
 rw[e,h2]at h1
 exact(abx h1).symm
theorem ER{cs:List iK}{zs:List Str}{i p q:Nat}{z:Str}{x y:iK}(hz:zs[i]?=some z)(hp:cs[p]?=some x)(hq:cs[q]?=some y):((gi cs zs).getD i []).getD p 0=((gi cs zs).getD i []).getD q 0↔CD (runC x z) z=CD (runC y z) z:=by
 have e:(gi cs zs).getD i []=readM (nM cs z):=by
  rw[abV]
  unfold gi
  rw[abM,hz];rfl
 have e2:∀{p:Nat}{x:iK},cs[p]?=some x->(readM (nM cs z)).getD p 0=ur (CD (runC x z) z) (nM cs z)/\CD (runC x z) z∈nM cs z:=λ{p x} hp=>by
  have h1:(nM cs z)[p]?=some (CD (runC x z) z):=by unfold nM;rw[abM,hp];rfl
  refine⟨?_,abi h1⟩
  rw[abV]
  unfold readM
  rw[abM,h1];rfl
 rw[e,(e2 hp).1,(e2 hq).1]
 exact MF (e2 hp).2 (e2 hq).2
theorem Sj{cs:List iK}{zs:List Str}{i:Nat}{z:Str}(hz:zs[i]?=some z):(gi cs zs)[i]?=some ((gi cs zs).getD i []):=by
 have:(gi cs zs)[i]?=some (readM (nM cs z)):=by unfold gi;rw[abM,hz];rfl
 rw[abV,this];rfl
def Dp(l:List Nat):Nat:=l.foldr max 0
theorem MG{l:List Nat}{n:Nat}(h:n∈l):n<=Dp l:=by
 induction l with
 |nil=>cases h
 |cons a l ih =>
  show n<=max a (Dp l)
  rcases abt.mp h with rfl|h
  ·omega
  ·have:=ih h;omega
theorem MH{l:List Nat}{m:Nat}(h:∀n∈l,n<=m):Dp l<=m:=by
 induction l with
 |nil=>exact abW _
 |cons a l ih =>
  show max a (Dp l)<=m
  have h1:=h a (abl ..)
  have h2:=ih λn hn=>h n (abp _ hn)
  omega
def mh:Nat->PT->Nat
 |_,.leaf _=>0
 | 0,.ask _ _=>0
 |n+1,.ask _ bs=>1+Dp (bs.map (mh n))
theorem AF{r ps:List Nat}:∀q∈aE r ps,∀x∈q,r.getD x 0=r.getD (q.headD 0) 0:=by
 suffices hh:∀q∈aE r ps,q≠[]/\∀x∈q,r.getD x 0=r.getD (q.headD 0) 0 from λq hq=>(hh q hq).2
 refine oQ (P:=λa=>∀q∈a,q≠[]/\∀x∈q,r.getD x 0=r.getD (q.headD 0) 0) (λq h=>nomatch h) ?_
 intro a p _ h
 have key:∀(l:List (List Nat)),(∀q∈l,q≠[]/\∀x∈q,r.getD x 0=r.getD (q.headD 0) 0)->∀q∈cV r p l,q≠[]/\∀x∈q,r.getD x 0=r.getD (q.headD 0) 0:=by
  intro l
  induction l with
  |nil =>
   intro _ q hq
   rw[abf.mp hq]
   exact⟨by simp,λx hx=>by rw[abf.mp hx];rfl⟩
  |cons q0 l ih =>
   intro hl q hq
   unfold cV at hq
   by_cases c:r.getD (q0.headD 0) 0=r.getD p 0
   ·rw[abj c]at hq
    rcases abt.mp hq with rfl|hq
    ·obtain⟨n0,h0⟩:=hl q0 (abl ..)
     have eh:(q0++[p]).headD 0=q0.headD 0:=by cases q0 with
      |nil=>exact absurd rfl n0
      |cons _ _=>rfl
     refine⟨by simp,λx hx=>?_⟩
     rw[eh]
     rcases abG.mp hx with hx|hx
     ·exact h0 x hx
     ·rw[abf.mp hx];exact c.symm
    ·exact hl q (abp _ hq)
   ·rw[abb c]at hq
    rcases abt.mp hq with rfl|hq
    ·exact hl _ (abl ..)
    ·exact ih (λq hq=>hl q (abp _ hq)) q hq
 exact key a h
theorem ES{r:List Nat}{p:Nat}:∀{l:List (List Nat)},(∃q∈cV r p l,p∈q)/\∀x,(∃q∈l,x∈q)->∃q∈cV r p l,x∈q
 |[]=>⟨⟨[p],abl ..,abl ..⟩,λx ⟨q,h,_⟩=>nomatch h⟩
 |q0::l=>by
  obtain⟨⟨q1,h1,h2⟩,h3⟩:=ES (r:=r) (p:=p) (l:=l)
  unfold cV
  by_cases c:r.getD (q0.headD 0) 0=r.getD p 0
  ·rw[abj c]
   refine⟨⟨_,abl ..,by simp⟩,λx ⟨q,hq,hx⟩=>?_⟩
   rcases abt.mp hq with rfl|hq
   ·exact⟨_,abl ..,List.mem_append_left _ hx⟩
   ·exact⟨q,abp _ hq,hx⟩
  ·rw[abb c]
   refine⟨⟨q1,abp _ h1,h2⟩,λx ⟨q,hq,hx⟩=>?_⟩
   rcases abt.mp hq with rfl|hq
   ·exact⟨_,abl ..,hx⟩
   ·obtain⟨q',a,b⟩:=h3 x ⟨q,hq,hx⟩
    exact⟨q',abp _ a,b⟩
theorem yh{r ps:List Nat}{x:Nat}(h:x∈ps):∃q∈aE r ps,x∈q:=by
 have key:∀(l:List Nat)(a:List (List Nat)),(x∈l\/∃q∈a,x∈q)->∃q∈l.foldl (λa p=>cV r p a) a,x∈q:=by
  intro l
  induction l with
  |nil=>rintro a (h|h);cases h;exact h
  |cons p l ih =>
   rintro a (h|h)
   ·rcases abt.mp h with rfl|h
    ·exact ih _ (.inr ES.1)
    ·exact ih _ (.inl h)
   ·exact ih _ (.inr (ES.2 x h))
 exact key ps [] (.inl h)
theorem KG{r ps:List Nat}(h:(aE r ps).length<2){x y:Nat}(hx:x∈ps)(hy:y∈ps):r.getD x 0=r.getD y 0:=by
 obtain⟨q,hq,hxq⟩:=yh (r:=r) hx
 obtain⟨q',hq',hyq⟩:=yh (r:=r) hy
 have e:q=q':=by
  match hp:aE r ps,h,hq,hq' with
  |[a],_,hq,hq'=>rw[abf.mp hq,abf.mp hq']
  |_::_::_,h,_,_=>simp at h;omega
 subst e
 rw[AF q hq x hxq,AF q hq y hyq]
theorem GH{ns:List Nat}{n:Nat}(h:n∈ns)(hm:∀m∈ns,m<=n):n=Dp ns:=Nat.le_antisymm (MG h) (MH hm)
abbrev Rdz(A H:Hp)(x:iK):List V->List Str->Prop:=Paired λv z=>o8 A H v (CD (runC x z) z)
abbrev ni(A H:Hp)(zs:List Str):List V->List iK->Prop:=Paired λe x=>∃a es,e=V.ref a/\A a=none/\H a=some (.lst es)/\Rdz A H x es zs
theorem ni.mono{A H H':Hp}{zs:List Str}{fX:List V}{cs:List iK}(s:aG H H')(h:ni A H zs fX cs):ni A H' zs fX cs:=aQ (λ_ _ ⟨a,es,e1,e2,e3,e4⟩=>⟨a,es,e1,e2,s _ _ e3,aQ (λ_ _ q=>o8.mono s q) e4⟩) h
theorem ni.set{A H:Hp}{zs:List Str}{l:Addr}{o:HO}{fX:List V}{cs:List iK}(hl:A l≠none)(h:ni A H zs fX cs):ni A (upd H l o) zs fX cs:=aQ (λ_ _ ⟨a,es,e1,e2,e3,e4⟩=>⟨a,es,e1,e2,(aH (λq=>hl (by rw[←q];exact e2))).trans e3,aQ (λ_ _ q=>o8.set hl q) e4⟩) h
theorem ni.HU{A H:Hp}{zs:List Str}{fX:List V}{cs:List iK}(h:ni A H zs fX cs):nh A H zs fX cs:=aQ (λ_ _ ⟨a,es,e1,_,e3,e4⟩=>⟨a,es,e1,e3,e4⟩) h
def neT:Nat->PT->Prop
 |_,.leaf _=>True
 | 0,.ask _ _=>True
 |n+1,.ask _ bs=>bs≠[]/\bs.length<=100/\∀b∈bs,neT n b
abbrev GJ:Hp:=λ_=>none
def AG(R:List (List Nat)):Nat->List Nat->PT->Prop
 |_,ps,.leaf qs=>qs=ps/\cM R ps=true
 |n+1,ps,.ask i bs=>i<R.length/\bs.length=(aE (R.getD i []) ps).length/\bs≠[]/\∀(j:Nat) q b,(aE (R.getD i []) ps)[j]?=some q->bs[j]?=some b->AG R n q b
 | 0,_,.ask _ _=>False
theorem AG.leaf{R:List (List Nat)}{n:Nat}{ps qs:List Nat}(h:AG R n ps (.leaf qs)):qs=ps/\cM R ps=true:=by cases n<;>exact h
theorem AG.MI{R:List (List Nat)}{n:Nat}{ps:List Nat}(h:cM R ps=true):AG R n ps (.leaf ps):=by cases n<;>exact⟨rfl,h⟩
theorem yi{R:List (List Nat)}{ps:List Nat}{m d:Nat}(h:cM R ps=true):bK R (m+1) ps (kK d (.leaf ps))=true:=by
 have e:kK d (.leaf ps)=uo ps:=by cases d<;>rfl
 rw[e]
 show(bA 'd' 'd'&&(fQ (.lst (ps.map λp=>.at (nV p))) ps&&cM R ps))=true
 rw[cH,h,Bool.and_true,abR]
 show(decide ((ps.map λp=>Th.at (nV p)).length=ps.length)&&((ps.map λp=>Th.at (nV p)).zip ps).all λx=>gP x.1 x.2 x.2)=true
 rw[abo (aa9 _),abR,abK]
 rintro⟨x,p⟩ hx
 have:x=Th.at (nV p):=by
  clear h e
  induction ps with
  |nil=>cases hx
  |cons q ps ih =>
   rcases abt.mp hx with e|hx
   ·cases e;rfl
   ·exact ih hx
 rw[this]
 exact abo ⟨Int.le_refl _,Int.le_refl _⟩
theorem kZ{R:List (List Nat)}:∀{d:Nat}{ps:List Nat}{T:PT}{m:Nat},AG R d ps T->d<m->bK R m ps (kK d T)=true
 |d,ps,.leaf qs,m,h,hm=>by
  obtain⟨rfl,ha⟩:=h.leaf
  obtain⟨m,rfl⟩:∃k,m=k+1:=⟨m-1,by omega⟩
  exact yi ha
 |d+1,ps,.ask i bs,m,⟨hi,hl,hn,hb⟩,hm=>by
  obtain⟨m,rfl⟩:∃k,m=k+1:=⟨m-1,by omega⟩
  show(bA 'e' 'e'&&o9 (bK R m) R ps (.at (.int (i:Int))) (.lst (bs.map (kK d))))=true
  rw[cH,abR,nK hi,aa9,abo hl,abR]
  have ne:(bs.map (kK d)).isEmpty=false:=by
   cases bs with
   |nil=>exact absurd rfl hn
   |cons _ _=>rfl
  rw[ne]
  show(true&&_)=true
  rw[abR,abK]
  rintro⟨q,x⟩ hx
  obtain⟨j,hj⟩:=ab2.mp hx
  rw[abY]at hj
  obtain⟨h1,h2⟩:=hj
  rw[abM]at h2
  cases h3:bs[j]? with
  |none=>rw[h3]at h2;cases h2
  |some b =>
   rw[h3]at h2;cases h2
   exact kZ (hb j q b h1 h3) 'b'
theorem Pj{r ps:List Nat}(h:∀x∈ps,∀y∈ps,r.getD x 0=r.getD y 0):(aE r ps).length<2:=by
 suffices hh:(aE r ps).length<2/\∀q∈aE r ps,q≠[]/\∀x∈q,x∈ps from hh.1
 refine oQ (P:=λa=>a.length<2/\∀q∈a,q≠[]/\∀x∈q,x∈ps) ⟨by simp,λq h=>nomatch h⟩ ?_
 rintro a p hp ⟨h1,h2⟩
 refine⟨?_,?_⟩
 ·match a,h1,h2 with
  |[],_,_=>simp[cV]
  |[q],_,h2 =>
   obtain⟨hn,hq⟩:=h2 q (abl ..)
   have hh:q.headD 0∈ps:=by
    cases q with
    |nil=>exact absurd rfl hn
    |cons x q=>exact hq x (abl ..)
   unfold cV
   rw[abj (h _ hh p hp)]
   simp
  |_::_::_,h1,_=>simp at h1;omega
 ·intro q hq
  rcases rq hq with rfl|hq|⟨q0,h0,rfl⟩
  ·exact⟨(λe=>nomatch e),λx hx=>by rw[abf.mp hx];exact hp⟩
  ·exact h2 q hq
  ·refine⟨by simp,λx hx=>?_⟩
   rcases abG.mp hx with hx|hx
   ·exact(h2 q0 h0).2 x hx
   ·rw[abf.mp hx];exact hp
theorem oU{R:List (List Nat)}{ps:List Nat}:cM R ps=true↔∀r∈R,∀x∈ps,∀y∈ps,r.getD x 0=r.getD y 0:=by
 unfold cM
 rw[abK]
 constructor
 ·intro h r hr x hx y hy
  exact KG (abT (h r hr)) hx hy
 ·intro h r hr
  exact abo (Pj (h r hr))
theorem HV{R:List (List Nat)}{ps qs:List Nat}(h:cM R ps=true)(hs:∀x∈qs,x∈ps):cM R qs=true :=
 oU.mpr λr hr x hx y hy=>oU.mp h r hr x (hs x hx) y (hs y hy)
theorem vF{R:List (List Nat)}{p0:Nat}{ps:List Nat}:cM R (p0::ps)=(p0::ps).all λp=>R.all λr=>decide (r.getD p 0=r.getD p0 0):=by
 rw[abS,oU,abK]
 constructor
 ·intro h p hp
  rw[abK]
  intro r hr
  exact abo (h r hr p hp p0 (abl ..))
 ·intro h r hr x hx y hy
  have h1:=abT (abK.mp (h x hx) r hr)
  have h2:=abT (abK.mp (h y hy) r hr)
  rw[h1,h2]
theorem GN{cs:List iK}{zs:List Str}{p q:Nat}{x y:iK}(hp:cs[p]?=some x)(hq:cs[q]?=some y):((List.range zs.length).all (Vr zs x y))=(gi cs zs).all λr=>decide (r.getD p 0=r.getD q 0):=by
 rw[abS,abK,abK]
 constructor
 ·intro h r hr
  obtain⟨j,hj⟩:=ab2.mp hr
  have hjl:j<zs.length:=by have:=(abd.mp hj).1;unfold gi at this;rwa [aa9]at this
  obtain⟨z,hz⟩:∃z,zs[j]?=some z:=⟨_,abk hjl⟩
  have h1:=h j (acJ.mpr hjl)
  rw[EO hz]at h1
  have h2:=(ER hz hp hq).mpr (abT h1)
  have e:(gi cs zs).getD j []=r:=by rw[abV,hj];rfl
  rw[e]at h2
  exact abo h2
 ·intro h j hj
  have hjl:=acJ.mp hj
  obtain⟨z,hz⟩:∃z,zs[j]?=some z:=⟨_,abk hjl⟩
  rw[EO hz]
  have h1:=abT (h _ (abi (Sj (cs:=cs) hz)))
  exact abo ((ER hz hp hq).mp h1)
theorem uu{r ps:List Nat}(h:ps≠[]):1<=(aE r ps).length:=by
 cases ps with
 |nil=>exact absurd rfl h
 |cons x ps =>
  obtain⟨q,hq,_⟩:=yh (r:=r) (ps:=x::ps) (abl ..)
  exact List.length_pos_of_mem hq
theorem eU.e0{A H:Hp}{n:Nat}{v:V}{t:PT}(h:eU A H n v t):eU GJ H n v t:=eU.old (λ_ _=>rfl) h
def QY(R:List (List Nat))(ps:List Nat)(deep:Nat):Nat:=if cM R ps=true then 3-deep else max (ps.length-1) (3-deep)
theorem Br{R:List (List Nat)}{ps:List Nat}(h:¬cM R ps=true):∃i,i<R.length/\1<(aE (R.getD i []) ps).length:=by
 obtain⟨r,hr,h1⟩:=HR h
 obtain⟨i,hi⟩:=ab2.mp hr
 refine⟨i,(abd.mp hi).1,?_⟩
 rw[abV,hi];exact h1
def iI(R:List (List Nat))(ps:List Nat)(n:Nat)(H:Hp)(v:V):Prop:=∃t,RT H n v t/\∀m,bK R m ps t=false
theorem iI.mono{R:List (List Nat)}{ps:List Nat}{n:Nat}{H H':Hp}{v:V}(s:aG H H')(h:iI R ps n H v):iI R ps n H' v:=by
 obtain⟨t,a,b⟩:=h
 exact⟨t,a.mono s,b⟩
theorem iI.up{R:List (List Nat)}{ps:List Nat}{n m:Nat}{H:Hp}{v:V}(l:n<=m)(h:iI R ps n H v):iI R ps m H v:=by
 obtain⟨t,a,b⟩:=h
 exact⟨t,a.up l,b⟩
theorem jy{R:List (List Nat)}{ps:List Nat}{t:Th}(h:fQ t ps=false)(m:Nat):bK R m ps (.tup [.at (.str 'd'),t])=false:=by
 cases m with
 |zero=>rfl
 |succ m=>rw[oS,h,ab0,ab6]
theorem Dq{R:List (List Nat)}{ps:List Nat}{w:Str}{t:Th}(h:bA w 'd'=false)(m:Nat):bK R m ps (.tup [.at (.str w),t])=false:=by
 cases m with
 |zero=>rfl
 |succ m=>rw[oS,h,ab0]
theorem AH{R:List (List Nat)}{ps:List Nat}{w:Str}{t u:Th}(h:bA w 'e'=false)(m:Nat):bK R m ps (.tup [.at (.str w),t,u])=false:=by
 cases m with
 |zero=>rfl
 |succ m=>rw[iB,h,ab0]
theorem iC{R:List (List Nat)}{ps:List Nat}{t u:Th}(h:∀f,o9 f R ps t u=false)(m:Nat):bK R m ps (.tup [.at (.str 'e'),t,u])=false:=by
 cases m with
 |zero=>rfl
 |succ m=>rw[iB,h,ab6]
theorem HW{f:List Nat->Th->Bool}{R:List (List Nat)}{ps:List Nat}{t:Th}:o9 f R ps t (.lst [])=false:=by
 cases t with
 |«at» v =>
  cases v with
  |int i=>show(_&&(!true&&_))=false;simp
  |_=>rfl
 |_=>rfl
theorem Bs{ts:List Th}{ps:List Nat}(h:ts.length≠ps.length):fQ (.lst ts) ps=false:=by
 show(decide _&&_)=false
 rw[abn h,ab0]
theorem Pk{t:Th}{ps:List Nat}(h:Si t=false):fQ t ps=false:=by
 cases t with
 |lst _=>cases h
 |_=>rfl
theorem xE{x:Th}{ts:List Th}{p:Nat}{ps:List Nat}(h:gP x p p=false):fQ (.lst (x::ts)) (p::ps)=false:=by
 show(_&&((x,p)::ts.zip ps).all _)=false
 rw[acO,show gP (x,p).1 ((x,p).2:Int) ((x,p).2:Int)=false from h,ab0,ab6]
def CF(ps:List Nat):List Th:=ps.map λp=>.at (nV p)
theorem oV{H:Hp}{a:Addr}{n:Nat}{ps:List Nat}(h:H a=some (.lst (ps.map nV))):RT H (n+1) (.ref a) (.lst (CF ps)):=⟨a,_,rfl,h,oR⟩
theorem aY{H:Hp}{n:Nat}{v:V}(h:dN v=true):RT H n v (.at v):=RT.ye ⟨rfl,h⟩
theorem kM{H:Hp}{a:Addr}{n:Nat}{v w:V}{x y:Th}(h:H a=some (.tup [v,w]))(h1:RT H n v x)(h2:RT H n w y):RT H (n+1) (.ref a) (.tup [x,y]):=⟨a,_,rfl,h,.cons h1 (.cons h2 .nil)⟩
theorem k6{H:Hp}{a:Addr}{n:Nat}{v w u:V}{x y z:Th}(h:H a=some (.tup [v,w,u]))(h1:RT H n v x)(h2:RT H n w y)(h3:RT H n u z):RT H (n+1) (.ref a) (.tup [x,y,z]):=⟨a,_,rfl,h,.cons h1 (.cons h2 (.cons h3 .nil))⟩
theorem KH{r:List Nat}:∀{ps:List Nat},ps.Nodup->∀q∈aE r ps,q.Nodup:=by
 have key:∀(l:List Nat)(a:List (List Nat)),l.Nodup->(∀q∈a,q.Nodup/\∀x∈q,x∉l)->∀q∈l.foldl (λa p=>cV r p a) a,q.Nodup:=by
  intro l
  induction l with
  |nil=>intro a _ h q hq;exact(h q hq).1
  |cons p l ih =>
   intro a nd h
   rw[acg]at nd
   refine ih _ nd.2 λq hq=>?_
   rcases rq hq with rfl|hq|⟨q0,h0,rfl⟩
   ·exact⟨by simp,λx hx=>by rw[abf.mp hx];exact nd.1⟩
   ·exact⟨(h q hq).1,λx hx hl=>(h q hq).2 x hx (abp _ hl)⟩
   ·obtain⟨h1,h2⟩:=h q0 h0
    refine⟨acI.mpr ⟨h1,by simp,λx hx y hy e=>?_⟩,λx hx=>?_⟩
    ·rw[abf.mp hy]at e
     exact h2 x hx (by rw[e];exact abl ..)
    ·rcases abG.mp hx with hx|hx
     ·exact λhl=>h2 x hx (abp _ hl)
     ·rw[abf.mp hx];exact nd.1
 intro ps nd
 exact key ps [] nd λq h=>nomatch h
theorem MJ{p:Nat}{ps:List Nat}(nd:(p::ps).Nodup)(h:ps≠[]):fQ (.lst (CF (p::ps).reverse)) (p::ps)=false:=by
 rw[acg]at nd
 obtain⟨x,l,e⟩:∃x l,(p::ps).reverse=x::l:=by
  cases h5:(p::ps).reverse with
  |nil=>simp at h5
  |cons x l=>exact⟨x,l,rfl⟩
 have hx:x∈ps:=by
  cases h6:ps.reverse with
  |nil=>exact absurd (List.reverse_eq_nil_iff.mp h6) h
  |cons y l' =>
   rw[List.reverse_cons,h6]at e
   have e2:y=x:=by injection e
   rw[←e2]
   exact List.mem_reverse.mp (by rw[h6];exact abl ..)
 rw[e]
 show fQ (.lst (.at (nV x)::CF l)) (p::ps)=false
 refine xE ?_
 show decide ((p:Int)<=x/\(x:Int)<=p)=false
 refine abn λq=>nd.1 ?_
 rw[show p=x by omega];exact hx
theorem Dr(xs:List V):(aZ xs (some 1) none).length=xs.length-1:=by
 unfold aZ
 rw[show(some (1:Int))=some ((1:Nat):Int) from rfl,HT.xy,HT.qS,abJ,acy]
 omega
theorem Ds{xs:List V}(h:xs≠[]):(aZ xs (some (-1)) none).length=1:=by
 have hl:=abX.mpr h
 unfold aZ
 rw[HT.qS,abJ,acy,show HT.yZ xs.length 0 (some (-1))=xs.length-1 from by
  show(if (-1:Int)<0 then ((-1:Int)+(xs.length:Int)).toNat else min (-1:Int).toNat xs.length)=_
  rw[abj 'c'];omega]
 omega
def dB(R:List (List Nat))(ps:List Nat)(n:Nat)(H:Hp)(xs:List V):Prop:=∀v∈xs,iI R ps n H v
theorem dB.mono{R:List (List Nat)}{ps:List Nat}{n:Nat}{H H':Hp}{xs:List V}(s:aG H H')(h:dB R ps n H xs):dB R ps n H' xs:=λv hv=>(h v hv).mono s
theorem dB.nil{R:List (List Nat)}{ps:List Nat}{n:Nat}{H:Hp}:dB R ps n H []:=λv hv=>nomatch hv
theorem dB.cons{R:List (List Nat)}{ps:List Nat}{n:Nat}{H:Hp}{v:V}{xs:List V}(h:iI R ps n H v)(r:dB R ps n H xs):dB R ps n H (v::xs):=λw hw=>by
 rcases abt.mp hw with rfl|hw
 ·exact h
 ·exact r w hw
theorem dB.app{R:List (List Nat)}{ps:List Nat}{n:Nat}{H:Hp}{xs ys:List V}(h:dB R ps n H xs)(r:dB R ps n H ys):dB R ps n H (xs++ys):=λw hw=>by
 rcases abG.mp hw with q|q
 ·exact h w q
 ·exact r w q
theorem rB{R:List (List Nat)}{ps qs:List Nat}{H:Hp}{t a:Addr}(ht:H t=some (.tup [.str 'd',.ref a]))(ha:H a=some (.lst (qs.map nV)))(h:fQ (.lst (CF qs)) ps=false):iI R ps 3 H (.ref t):=⟨_,kM ht (aY rfl) (oV (n:=1) ha),jy h⟩
theorem Bt{R:List (List Nat)}{ps:List Nat}{H:Hp}{t a:Addr}{v:V}{qs:List Nat}(ht:H t=some (.tup [.str 'd',.ref a]))(ha:H a=some (.lst (v::qs.map nV)))(hf:dN v=true)(hp:ps≠[])(hw:∀p∈ps,gP (.at v) p p=false):iI R ps 3 H (.ref t):=by
 refine⟨_,kM ht (aY rfl) (show RT H 2 (.ref a) (.lst (.at v::CF qs)) from⟨a,_,O,ha,.cons (aY hf) oR⟩),jy ?_⟩
 cases ps with
 |nil=>exact absurd rfl hp
 |cons p ps=>exact xE (hw p (abl ..))
theorem KI{H:Hp}{n:Nat}:∀{bs:List Bool},Paired (RT H n) (bs.map V.bl) (bs.map λb=>Th.at (.bl b))
 |[]=>.nil
 |_::_=>.cons (aY rfl) KI
theorem KJ{x v:V}{n:Nat}(hn:1<=n)(h:v∈aZ [x] none (some ((n:Int)-1))):v=x/\2<=n:=by
 obtain⟨m,rfl⟩:∃m,n=m+1:=⟨n-1,by omega⟩
 rw[show((m+1:Nat):Int)-1=(m:Int) by omega]at h
 unfold aZ at h
 rw[HT.xy,HT.qS]at h
 cases m with
 |zero=>simp at h
 |succ m=>exact⟨abf.mp (List.mem_of_mem_drop (acr h)),by omega⟩
theorem ET{xs:List V}(h:xs≠[])(n:Int):∃v,fu xs (n % (xs.length:Int))=some v/\v∈xs:=by
 have hl:=abX.mpr h
 have h0:=abN n (show(xs.length:Int)≠0 by omega)
 have h1:=abL n (show(0:Int)<(xs.length:Int) by omega)
 obtain⟨k,hk⟩:∃k:Nat,n % (xs.length:Int)=(k:Int):=⟨(n % (xs.length:Int)).toNat,by omega⟩
 have N5:k<xs.length:=by omega
 rw[hk]
 exact⟨xs[k],bh (abk N5),acM N5⟩
def Kn(H:Hp)(n:Nat)(xs:List V):Prop:=∀v∈xs,∃t,RT H n v t
theorem Kn.mono{H H':Hp}{n:Nat}{xs:List V}(s:aG H H')(h:Kn H n xs):Kn H' n xs:=λv hv=>by
 obtain⟨t,a⟩:=h v hv
 exact⟨t,a.mono s⟩
theorem Kn.cut{H:Hp}{n:Nat}{xs:List V}{a b:Option Int}(h:Kn H n xs):Kn H n (aZ xs a b):=λv hv=>h v (by unfold aZ at hv;exact List.mem_of_mem_drop (acr hv))
theorem Kn.app{H:Hp}{n:Nat}{xs ys:List V}(h:Kn H n xs)(r:Kn H n ys):Kn H n (xs++ys):=λv hv=>by
 rcases abG.mp hv with q|q
 ·exact h v q
 ·exact r v q
theorem Kn.rev{H:Hp}{n:Nat}{xs:List V}(h:Kn H n xs):Kn H n xs.reverse:=λv hv=>h v (List.mem_reverse.mp hv)
theorem Kn.of{H:Hp}{n:Nat}{xs:List V}{ts:List Th}(h:Paired (RT H n) xs ts):Kn H n xs:=λv hv=>by
 obtain⟨j,hj⟩:=ab2.mp hv
 obtain⟨t,_,ht⟩:=aI h j v hj
 exact⟨t,ht⟩
theorem Kn.pair{H:Hp}{n:Nat}:∀{xs:List V},Kn H n xs->∃ts,Paired (RT H n) xs ts
 |[],_=>⟨[],.nil⟩
 |x::xs,h=>by
  obtain⟨t,ht⟩:=h x (abl ..)
  obtain⟨ts,hts⟩:=Kn.pair (xs:=xs) λv hv=>h v (abp _ hv)
  exact⟨t::ts,.cons ht hts⟩
theorem HX{xs:List V}:aZ xs (some 1) none=xs.drop 1:=by
 unfold aZ
 rw[show(some (1:Int))=some ((1:Nat):Int) from rfl,HT.xy,HT.qS]
 cases xs with
 |nil=>rfl
 |cons x xs =>
  rw[show min 1 (x::xs).length=1 by simp]
  exact aby (by rw[acy];exact abh _)
theorem Bu{f:List Nat->Th->Bool}{R:List (List Nat)}{ps:List Nat}{i:Nat}{ts:List Th}(h:i<R.length)(hl:ts.length≠(aE (R.getD i []) ps).length):o9 f R ps (.at (.int (i:Int))) (.lst ts)=false:=by
 rw[nK h,abn hl,ab0,ab6]
theorem KL{f:List Nat->Th->Bool}{R:List (List Nat)}{ps:List Nat}{i:Nat}{ts:List Th}{x:Th}(h:i<R.length)(hn:(aE (R.getD i []) ps).length≠0)(hf:∀q,(aE (R.getD i []) ps)[0]?=some q->f q x=false):o9 f R ps (.at (.int (i:Int))) (.lst (x::ts))=false:=by
 rw[nK h]
 cases hp:aE (R.getD i []) ps with
 |nil=>rw[hp]at hn;exact absurd rfl hn
 |cons q qs =>
  rw[hp]at hf
  rw[List.zip_cons_cons,acO,show f (q,x).1 (q,x).2=false from hf q rfl,ab0,ab6,ab6]
theorem fR{R:List (List Nat)}{ps:List Nat}{n:Nat}{H:Hp}{a:Addr}{v w u:V}{x y z:Th}(h:H a=some (.tup [v,w,u]))(h1:RT H n v x)(h2:RT H n w y)(h3:RT H n u z)(hb:∀m,bK R m ps (.tup [x,y,z])=false):iI R ps (n+1) H (.ref a):=⟨_,k6 h h1 h2 h3,hb⟩
theorem Dt{R:List (List Nat)}{ps:List Nat}{n i:Nat}{H:Hp}{t l:Addr}{zs:List V}(ht:H t=some (.tup [.str 'e',.int (i:Int),.ref l]))(hl:H l=some (.lst zs))(hk:Kn H n zs)(hi:i<R.length)(hz:zs.length≠(aE (R.getD i []) ps).length):iI R ps (n+2) H (.ref t):=by
 obtain⟨ts,hts⟩:=hk.pair
 refine fR ht (aY rfl) (aY rfl) (show RT H (n+1) (.ref l) (.lst ts) from⟨l,_,rfl,hl,hts⟩) (iC λf=>Bu hi ?_)
 rw[←hts.length];exact hz
theorem Bv{R:List (List Nat)}{ps:List Nat}{n i:Nat}{H:Hp}{t l:Addr}{zs:List V}{y:V}{x:Th}(ht:H t=some (.tup [.str 'e',.int (i:Int),.ref l]))(hl:H l=some (.lst zs))(hk:Kn H n zs)(hi:i<R.length)(hn:(aE (R.getD i []) ps).length≠0)(h0:zs[0]?=some y)(hx:RT H n y x)(hf:∀m q,(aE (R.getD i []) ps)[0]?=some q->bK R m q x=false):iI R ps (n+2) H (.ref t):=by
 cases zs with
 |nil=>cases h0
 |cons y' zs =>
  cases h0
  obtain⟨ts,hts⟩:=Kn.pair (xs:=zs) λv hv=>hk v (abp _ hv)
  refine fR ht (aY rfl) (aY rfl) (show RT H (n+1) (.ref l) (.lst (x::ts)) from⟨l,_,rfl,hl,.cons hx hts⟩) λm=>?_
  cases m with
  |zero=>rfl
  |succ m =>
   rw[iB]
   rw[KL hi hn λq hq=>hf m q hq,ab6]
theorem AI{R:List (List Nat)}:∀{d:Nat}{q ps:List Nat}{T:PT}{m:Nat},AG R d q T->ps≠[]->(∀x∈ps,x∉q)->bK R m ps (kK d T)=false
 |d,q,ps,.leaf qs,m,h,hn,hd=>by
  obtain⟨rfl,_⟩:=h.leaf
  have e:kK d (.leaf qs)=.tup [.at (.str 'd'),.lst (CF qs)]:=by cases d<;>rfl
  rw[e]
  refine jy ?_ m
  cases ps with
  |nil=>exact absurd rfl hn
  |cons p ps =>
   cases qs with
   |nil=>exact Bs (by show 0≠_;simp)
   |cons z qs =>
    refine xE (ts:=CF qs) (x:=.at (nV z)) ?_
    show decide ((p:Int)<=z/\(z:Int)<=p)=false
    refine abn λe2=>hd p (abl ..) ?_
    rw[show p=z by omega];exact abl ..
 |d+1,q,ps,.ask i bs,m,⟨hi,hl,hn,hb⟩,hp,hd=>by
  cases m with
  |zero=>rfl
  |succ m =>
   show(bA 'e' 'e'&&o9 (bK R m) R ps (.at (.int (i:Int))) (.lst (bs.map (kK d))))=false
   cases bs with
   |nil=>exact absurd rfl hn
   |cons b bs =>
    have mj:0<(aE (R.getD i []) q).length:=by rw[←hl];simp
    obtain⟨q1,hq1⟩:∃q1,(aE (R.getD i []) q)[0]?=some q1:=⟨_,abk mj⟩
    have ok1:=hb 0 q1 b hq1 rfl
    rw[ach,KL (x:=kK d b) hi (by have:=uu (r:=R.getD i []) hp;omega) (λq2 hq2=>?_),ab6]
    obtain⟨n2,s2⟩:=cD (r:=R.getD i []) (ps:=ps) q2 (abi hq2)
    obtain⟨_,s1⟩:=cD (r:=R.getD i []) (ps:=q) q1 (abi hq1)
    exact AI ok1 n2 λx hx MK=>hd x (s2 x hx) (s1 x MK)
def AJ(r:List Nat)(q:List Nat):Nat:=r.getD (q.headD 0) 0
theorem GO{r q:List Nat}{p:Nat}(h:q≠[]):AJ r (q++[p])=AJ r q:=by
 cases q with
 |nil=>exact absurd rfl h
 |cons _ _=>rfl
theorem KN{r:List Nat}{p:Nat}:∀{l:List (List Nat)},(∀q∈l,q≠[])->∀q∈cV r p l,AJ r q=r.getD p 0\/∃q0∈l,AJ r q0=AJ r q
 |[],_,q,hq=>by rw[abf.mp hq];exact .inl rfl
 |q0::l,hn,q,hq=>by
  unfold cV at hq
  split at hq
  ·rcases abt.mp hq with rfl|hq
   ·exact .inr ⟨q0,abl ..,(GO (hn q0 (abl ..))).symm⟩
   ·exact .inr ⟨q,abp _ hq,rfl⟩
  ·rcases abt.mp hq with rfl|hq
   ·exact .inr ⟨q,abl ..,rfl⟩
   ·rcases KN (λq h=>hn q (abp _ h)) q hq with h|⟨q1,h1,h2⟩
    ·exact .inl h
    ·exact .inr ⟨q1,abp _ h1,h2⟩
theorem KO{r:List Nat}{p:Nat}:∀{l:List (List Nat)},(∀q∈l,q≠[]/\∀x∈q,r.getD x 0=AJ r q)->l.Pairwise (λa b=>AJ r a≠AJ r b)->(cV r p l).Pairwise (λa b=>AJ r a≠AJ r b)/\∀q∈cV r p l,q≠[]/\∀x∈q,r.getD x 0=AJ r q
 |[],_,_=>⟨List.pairwise_singleton _ _,λq hq=>by
  rw[show q=[p]from abf.mp hq]
  exact⟨by simp,λx hx=>by rw[abf.mp hx];rfl⟩⟩
 |q0::l,hg,pw=>by
  obtain⟨p1,p2⟩:=List.pairwise_cons.mp pw
  obtain⟨n0,g0⟩:=hg q0 (abl ..)
  have hl:∀q∈l,q≠[]/\∀x∈q,r.getD x 0=AJ r q:=λq h=>hg q (abp _ h)
  unfold cV
  split
  ·rename_i he
   have e:AJ r (q0++[p])=AJ r q0:=GO n0
   refine⟨List.pairwise_cons.mpr ⟨λb hb=>by rw[e];exact p1 b hb,p2⟩,λq hq=>?_⟩
   rcases abt.mp hq with rfl|hq
   ·refine⟨by simp,λx hx=>?_⟩
    rw[e]
    rcases abG.mp hx with hx|hx
    ·exact g0 x hx
    ·rw[abf.mp hx];exact he.symm
   ·exact hl q hq
  ·rename_i he
   obtain⟨i1,i2⟩:=KO (p:=p) hl p2
   refine⟨List.pairwise_cons.mpr ⟨λb hb=>?_,i1⟩,λq hq=>?_⟩
   ·rcases KN (λq h=>(hl q h).1) b hb with h|⟨q1,h1,h2⟩
    ·rw[h];exact he
    ·rw[←h2];exact p1 q1 h1
   ·rcases abt.mp hq with rfl|hq
    ·exact⟨n0,g0⟩
    ·exact i2 q hq
theorem HY{r ps q q':List Nat}{j k x:Nat}(hj:(aE r ps)[j]?=some q)(hk:(aE r ps)[k]?=some q')(h:j≠k)(hx:x∈q):x∉q':=by
 obtain⟨pw,hg⟩:(aE r ps).Pairwise (λa b=>AJ r a≠AJ r b)/\∀q∈aE r ps,q≠[]/\∀x∈q,r.getD x 0=AJ r q:=oQ (P:=λa=>a.Pairwise (λa b=>AJ r a≠AJ r b)/\∀q∈a,q≠[]/\∀x∈q,r.getD x 0=AJ r q) ⟨.nil,λq h=>nomatch h⟩ λa p _ ⟨h1,h2⟩=>KO h2 h1
 intro hx'
 have e1:=(hg q (abi hj)).2 x hx
 have e2:=(hg q' (abi hk)).2 x hx'
 rw[List.pairwise_iff_getElem]at pw
 obtain⟨lj,ej⟩:=abd.mp hj
 obtain⟨lk,ek⟩:=abd.mp hk
 rcases Nat.lt_or_gt_of_ne h with l|l
 ·have:=pw j k lj lk l
  rw[ej,ek]at this
  exact this (e1.symm.trans e2)
 ·have:=pw k j lk lj l
  rw[ej,ek]at this
  exact this (e2.symm.trans e1)
theorem Po{f:List Nat->Th->Bool}{R:List (List Nat)}{ps q:List Nat}{i j:Nat}{ts:List Th}{x:Th}(h:i<R.length)(hq:(aE (R.getD i []) ps)[j]?=some q)(hx:ts[j]?=some x)(hf:f q x=false):o9 f R ps (.at (.int (i:Int))) (.lst ts)=false:=by
 rw[nK h]
 have hz:((aE (R.getD i []) ps).zip ts)[j]?=some (q,x):=by rw[abY];exact⟨hq,hx⟩
 have:(((aE (R.getD i []) ps).zip ts).all λx=>f x.1 x.2)=false:=by
  rw[List.all_eq_false]
  exact⟨_,abi hz,by rw[show f (q,x).1 (q,x).2=false from hf];decide⟩
 rw[this,ab6,ab6]
theorem mq{α β:Type}{P:α->β->Prop}{w:α}{x:β}(hw:P w x):∀{es:List α}{ts:List β}{j:Nat},Paired P es ts->Paired P (es.set j w) (ts.set j x)
 |[],[],_,.nil=>.nil
 |_::_,_::_,0,.cons _ h=>.cons hw h
 |_::_,_::_,_+1,.cons h1 h=>.cons h1 (mq hw h)
theorem ML{R:List (List Nat)}{ps q:List Nat}{i j n d:Nat}{H:Hp}{t l:Addr}{es:List V}{bs:List PT}{w:V}(ht:H t=some (.tup [.str 'e',.int (i:Int),.ref l]))(hl:H l=some (.lst (es.set j w)))(hp:Paired (eU GJ H d) es bs)(hi:i<R.length)(hq:(aE (R.getD i []) ps)[j]?=some q)(hj:j<es.length)(hd:2*d+2<=n)(hw:iI R q n H w):iI R ps (n+2) H (.ref t):=by
 obtain⟨x,rx,fx⟩:=hw
 have pr:Paired (RT H n) es (bs.map (kK d)):=by
  clear hl hj
  induction hp with
  |nil=>exact .nil
  |cons h _ ih=>exact .cons ((eU.rt h).up hd) ih
 have ps2:Paired (RT H n) (es.set j w) ((bs.map (kK d)).set j x):=mq rx pr
 refine fR ht (aY rfl) (aY rfl) (show RT H (n+1) (.ref l) (.lst _) from⟨l,_,rfl,hl,ps2⟩) λm=>?_
 cases m with
 |zero=>rfl
 |succ m =>
  rw[iB,Po hi hq (x:=x) (by rw[acB (by rw[←pr.length];exact hj)]) (fx m),ab6]
def br(A G:Hp):Hp:=λb=>match A b with
 |none=>G b
 |some _=>none
theorem hid{A G:Hp}{b:Addr}{o:HO}(h:A b=none)(g:G b=some o):br A G b=some o:=by
 unfold br;rw[h];exact g
theorem Du{A G:Hp}:aG (br A G) G:=λb o h=>by
 unfold br at h
 cases hb:A b with
 |none=>rw[hb]at h;exact h
 |some _=>rw[hb]at h;cases h
theorem aJ{A G G':Hp}(s:aG G G'):aG (br A G) (br A G'):=λb o h=>by
 unfold br at h
 cases hb:A b with
 |none=>rw[hb]at h;exact hid hb (s _ _ h)
 |some _=>rw[hb]at h;cases h
def Jb(A G:Hp):Prop:=∀b,G b=none->A b=none
theorem Jb.mono{A G G':Hp}(s:aG G G')(h:Jb A G):Jb A G':=λb q=>h b (s.free q)
theorem eU.hid{A H:Hp}:∀{n:Nat}{v:V}{t:PT},eU A H n v t->eU A (br A H) n v t
 | 0,_,.leaf ps,⟨t,l,a,b,c,d,e⟩=>⟨t,l,a,b,c,My.hid b d,My.hid c e⟩
 |n+1,_,.leaf ps,⟨t,l,a,b,c,d,e⟩=>⟨t,l,a,b,c,My.hid b d,My.hid c e⟩
 |n+1,_,.ask i bs,⟨t,l,es,a,b,c,d,e,f⟩=>⟨t,l,es,a,b,c,My.hid b d,My.hid c e,aQ (λ_ _ h=>eU.hid h) f⟩
theorem eU.more{A H:Hp}{y:Addr}{o:HO}(hy:H y=none):∀{n:Nat}{v:V}{t:PT},eU A H n v t->eU (upd A y o) H n v t
 | 0,_,.leaf ps,⟨t,l,a,b,c,d,e⟩=>⟨t,l,a,by rw[aH (λq=>by rw[q,hy]at d;cases d)];exact b,by rw[aH (λq=>by rw[q,hy]at e;cases e)];exact c,d,e⟩
 |n+1,_,.leaf ps,⟨t,l,a,b,c,d,e⟩=>⟨t,l,a,by rw[aH (λq=>by rw[q,hy]at d;cases d)];exact b,by rw[aH (λq=>by rw[q,hy]at e;cases e)];exact c,d,e⟩
 |n+1,_,.ask i bs,⟨t,l,es,a,b,c,d,e,f⟩=>⟨t,l,es,a,by rw[aH (λq=>by rw[q,hy]at d;cases d)];exact b,by rw[aH (λq=>by rw[q,hy]at e;cases e)];exact c,d,e,aQ (λ_ _ h=>eU.more hy h) f⟩
theorem Bw{A H H':Hp}{y:Addr}{o o2:HO}(s:aG (upd H y o2) H'):aG (br (upd A y o) H) (br A H'):=λb x h=>by
 unfold br at h
 by_cases e:b=y
 ·rw[e,ai]at h;cases h
 ·rw[aH e]at h
  cases hb:A b with
  |none=>rw[hb]at h;exact hid hb (s _ _ (by rw[aH e];exact h))
  |some _=>rw[hb]at h;cases h
theorem AK{n j:Nat}(h:j<n):IZ n (j:Int)=some j:=by unfold IZ;rw[abj 'b',abj 'b'];simp
theorem Dv{r:List Nat}{p:Nat}:∀{l:List (List Nat)},(cV r p l).flatten.Perm (p::l.flatten)
 |[]=>.refl _
 |q::l=>by
  unfold cV
  split
  ·show((q++[p])++l.flatten).Perm (p::(q++l.flatten))
   rw[List.append_assoc]
   exact List.perm_middle
  ·show(q++(cV r p l).flatten).Perm (p::(q++l.flatten))
   exact(List.Perm.append_left q Dv).trans List.perm_middle
theorem yj{r ps:List Nat}:(aE r ps).flatten.Perm ps:=by
 have key:∀(l:List Nat)(a:List (List Nat)),(l.foldl (λa p=>cV r p a) a).flatten.Perm (a.flatten++l):=by
  intro l
  induction l with
  |nil=>intro a;rw[acq];exact .refl _
  |cons p l ih =>
   intro a
   refine(ih (cV r p a)).trans ?_
   refine(List.Perm.append_right l Dv).trans ?_
   exact(List.perm_middle (a:=p) (l₁:=a.flatten) (l₂:=l)).symm
 exact key ps []
theorem uv{r ps:List Nat}(h:ps.Pairwise (· < ·)):∀q∈aE r ps,q.Pairwise (· < ·):=by
 have key:∀(l:List Nat)(a:List (List Nat)),l.Pairwise (· < ·)->(∀q∈a,q.Pairwise (· < ·)/\∀x∈q,∀y∈l,x<y)->∀q∈l.foldl (λa p=>cV r p a) a,q.Pairwise (· < ·):=by
  intro l
  induction l with
  |nil=>intro a _ h q hq;exact(h q hq).1
  |cons p l ih =>
   intro a pw h
   rw[List.pairwise_cons]at pw
   refine ih _ pw.2 λq hq=>?_
   rcases rq hq with rfl|hq|⟨q0,h0,rfl⟩
   ·exact⟨List.pairwise_singleton _ _,λx hx=>by rw[abf.mp hx];exact pw.1⟩
   ·exact⟨(h q hq).1,λx hx y hy=>(h q hq).2 x hx y (abp _ hy)⟩
   ·obtain⟨h1,h2⟩:=h q0 h0
    refine⟨List.pairwise_append.mpr ⟨h1,List.pairwise_singleton _ _,λx hx y hy=>by rw[abf.mp hy];exact h2 x hx p (abl ..)⟩,λx hx y hy=>?_⟩
    rcases abG.mp hx with hx|hx
    ·exact h2 x hx y (abp _ hy)
    ·rw[abf.mp hx];exact pw.1 y hy
 exact key ps [] h λq h=>nomatch h
theorem Pp{ns:List Int}{qs ps:List Nat}(h1:ns.Perm (qs.map λ(p:Nat)=>(p:Int)))(h2:ns.Pairwise (·<=·))(h3:qs.Perm ps)(h4:ps.Pairwise (· < ·)):ns=ps.map λ(p:Nat)=>(p:Int):=by
 refine List.Perm.eq_of_pairwise (le:=(·<=·)) (λa b _ _ x y=>Int.le_antisymm x y) h2 ?_ (h1.trans (h3.map _))
 rw[List.pairwise_map]
 exact h4.imp λh=>by omega
theorem MN{f:List Nat->Th->Bool}{R:List (List Nat)}{ps q:List Nat}{i j:Nat}{ts:List Th}{x:Th}(h:i<R.length)(hl:ts.length=(aE (R.getD i []) ps).length)(hq:(aE (R.getD i []) ps)[j]?=some q)(ho:∀(k:Nat) q t,(aE (R.getD i []) ps)[k]?=some q->ts[k]?=some t->k≠j->f q t=true):o9 f R ps (.at (.int (i:Int))) (.lst (ts.set j x))=f q x:=by
 have hj:j<ts.length:=by rw[hl];exact(abd.mp hq).1
 rw[nK h,List.length_set,abo hl,abR]
 have ne:(ts.set j x).isEmpty=false:=by
  cases ts with
  |nil=>simp at hj
  |cons _ _=>cases j<;>rfl
 rw[ne]
 show(true&&_)=_
 rw[abR,abS,abK]
 constructor
 ·intro a
  have hz:((aE (R.getD i []) ps).zip (ts.set j x))[j]?=some (q,x):=by
   rw[abY];exact⟨hq,acB hj⟩
  exact a _ (abi hz)
 ·rintro a ⟨q1,t1⟩ hm
  obtain⟨k,hk⟩:=ab2.mp hm
  rw[abY]at hk
  obtain⟨h1,h2⟩:=hk
  by_cases e:k=j
  ·subst e
   rw[hq]at h1;cases h1
   rw[acB hj]at h2;cases h2
   exact a
  ·rw[List.getElem?_set_ne (λz=>e z.symm)]at h2
   exact ho k q1 t1 h1 h2 e
theorem EU{r:List Nat}{p:Nat}:∀{a:List (List Nat)},cV r p a=a++[[p]]\/(cV r p a).length=a.length
 |[]=>.inl rfl
 |q::a=>by
  unfold cV
  split
  ·exact .inr rfl
  ·rcases EU (r:=r) (p:=p) (a:=a) with h|h
   ·exact .inl (by rw[h];rfl)
   ·exact .inr (by rw[abF,abF,h])
theorem GP{r:List Nat}:∀{l:List Nat}{a:List (List Nat)},(l.foldl (λa p=>cV r p a) a).length<=a.length+l.length
 |[],_=>abh _
 |p::l,a=>by
  refine abv (GP (l:=l) (a:=cV r p a)) ?_
  rw[abF]
  rcases EU (r:=r) (p:=p) (a:=a) with h|h
  ·rw[h,abq];show a.length+1+l.length<=_;omega
  ·omega
theorem Bx{r ps:List Nat}(h:(aE r ps).length=ps.length):aE r ps=ps.map λp=>[p]:=by
 have key:∀(l:List Nat)(a:List (List Nat)),(l.foldl (λa p=>cV r p a) a).length=a.length+l.length->l.foldl (λa p=>cV r p a) a=a++l.map λp=>[p]:=by
  intro l
  induction l with
  |nil=>intro a _;rw[List.map_nil,acq];rfl
  |cons p l ih =>
   intro a hl
   have h1:=GP (r:=r) (l:=l) (a:=cV r p a)
   rw[List.foldl_cons,abF]at hl
   rcases EU (r:=r) (p:=p) (a:=a) with e|e
   ·rw[List.foldl_cons,ih _ (by rw[hl,e,abq];show _=a.length+1+l.length;omega),e,List.append_assoc];rfl
   ·omega
 have:=key ps [] (by rw[List.length_nil,Nat.zero_add];exact h)
 rw[List.nil_append]at this
 exact this
theorem HZ{r ps:List Nat}(h:(aE r ps).length=1)(hp:ps.Pairwise (· < ·)):aE r ps=[ps]:=by
 have pp:=yj (r:=r) (ps:=ps)
 have pa:=uv (r:=r) hp
 cases hq:aE r ps with
 |nil=>rw[hq]at h;cases h
 |cons q l =>
  rw[hq]at h pp pa
  cases l with
  |cons _ _=>simp at h
  |nil =>
   rw[show [q].flatten=q from by simp]at pp
   rw[List.Perm.eq_of_pairwise (le:=(· < ·)) (λa b _ _ x y=>absurd x (Nat.lt_asymm y)) (pa q (abl ..)) hp pp]
theorem Ia{R:List (List Nat)}{p:Nat}:cM R [p]=true:=oU.mpr λr _ x hx y hy=>by rw[abf.mp hx,abf.mp hy]
theorem KP{R:List (List Nat)}{ps q:List Nat}{i j n d D:Nat}{H:Hp}{t l:Addr}{es:List V}{bs:List PT}{w:V}{x:Th}{b:Bool}(ht:H t=some (.tup [.str 'e',.int (i:Int),.ref l]))(hl:H l=some (.lst (es.set j w)))(hp:Paired (eU GJ H d) es bs)(hi:i<R.length)(MO:bs.length=(aE (R.getD i []) ps).length)(hok:∀(j:Nat) q b,(aE (R.getD i []) ps)[j]?=some q->bs[j]?=some b->AG R d q b)(hq:(aE (R.getD i []) ps)[j]?=some q)(hd:2*d+2<=n)(hD:d<D)(rx:RT H n w x)(hx:∀m,D<m->bK R m q x=b):∃T,RT H (n+2) (.ref t) T/\∀m,D+1<m->bK R m ps T=b:=by
 have pr:Paired (RT H n) es (bs.map (kK d)):=by
  clear hl hok MO
  induction hp with
  |nil=>exact .nil
  |cons h _ ih=>exact .cons ((eU.rt h).up hd) ih
 have ps2:Paired (RT H n) (es.set j w) ((bs.map (kK d)).set j x):=mq rx pr
 refine⟨_,k6 ht (aY rfl) (aY rfl) (show RT H (n+1) (.ref l) (.lst _) from⟨l,_,O,hl,ps2⟩),λm hm=>?_⟩
 obtain⟨m,rfl⟩:∃k,m=k+1:=⟨m-1,by omega⟩
 rw[iB,cH,abR,MN hi (by rw[aa9];exact MO) hq (λk q1 t1 h1 h2 _=>?_)]
 ·exact hx m 'b'
 ·rw[abM]at h2
  cases h5:bs[k]? with
  |none=>rw[h5]at h2;cases h2
  |some b5=>rw[h5]at h2;cases h2;exact kZ (hok k q1 b5 h1 h5) 'b'
theorem MP:∀{ps:List Nat},fQ (.lst (CF ps)) ps=true
 |ps=>by
  show(decide ((CF ps).length=ps.length)&&((CF ps).zip ps).all λx=>gP x.1 x.2 x.2)=true
  rw[abo (by unfold CF;rw[aa9]),abR]
  induction ps with
  |nil=>rfl
  |cons p ps ih =>
   show(decide ((p:Int)<=(p:Int)/\(p:Int)<=(p:Int))&&((CF ps).zip ps).all λx=>gP x.1 x.2 x.2)=true
   rw[ih,abo ⟨Int.le_refl _,Int.le_refl _⟩];rfl
theorem KQ{R:List (List Nat)}{ps:List Nat}{i m:Nat}{x:Th}{a:Nat}(hi:i<R.length)(hp:ps.Pairwise (· < ·))(hx:bK R m ps x=true)(ha:a=(aE (R.getD i []) ps).length):o9 (bK R m) R ps (.at (.int (i:Int))) (.lst [x])=decide (V.int (a:Int)=V.int 1):=by
 by_cases c:(aE (R.getD i []) ps).length=1
 ·rw[abo (by rw[ha,c];rfl),nK hi,HZ c hp]
  show(true&&(true&&(bK R m ps x&&true)))=true
  rw[hx];rfl
 ·rw[abn (λe=>c (by have:=V.int.inj e;omega)),Bu hi (by show 1≠_;exact λe=>c e.symm)]
theorem EV{R:List (List Nat)}{ps:List Nat}{i m:Nat}{a b:Nat}(hi:i<R.length)(hn:ps≠[])(ha:a=(aE (R.getD i []) ps).length)(hb:b=ps.length):o9 (bK R (m+1)) R ps (.at (.int (i:Int))) (.lst (ps.map λp=>uo [p]))=decide (V.int (a:Int)=V.int (b:Int)):=by
 by_cases c:(aE (R.getD i []) ps).length=ps.length
 ·rw[abo (by rw[ha,hb,c]),nK hi,Bx c,aa9,aa9,abo rfl]
  have ne:(ps.map λp=>uo [p]).isEmpty=false:=by
   cases ps with
   |nil=>exact absurd rfl hn
   |cons _ _=>rfl
  rw[ne]
  show(true&&_)=true
  rw[abR,abR,abK]
  rintro⟨q,x⟩ hx
  obtain⟨j,hj⟩:=ab2.mp hx
  rw[abY,abM,abM]at hj
  obtain⟨h1,h2⟩:=hj
  cases h3:ps[j]? with
  |none=>rw[h3]at h1;cases h1
  |some p =>
   rw[h3]at h1 h2;cases h1;cases h2
   exact yi (d:=0) Ia
 ·rw[abn (λe=>c (by have:=V.int.inj e;omega)),Bu hi (by rw[aa9];exact λe=>c e.symm)]
theorem GQ{A H:Hp}{y:Addr}{o o2:HO}:aG (br (upd A y o) H) (br (upd A y o) (upd H y o2)):=λb x h=>by
 unfold br at h⊢
 by_cases e:b=y
 ·rw[e,ai]at h;cases h
 ·rw[aH e]at h⊢
  cases hb:A b with
  |none=>rw[hb]at h;show upd H y o2 b=_;rw[aH e];exact h
  |some _=>rw[hb]at h;cases h
theorem Ib{H G:Hp}{a:Addr}{o:HO}(h:H a=some o)(s:aG H G):aG (upd H a o) G:=λb x hb=>by
 by_cases e:b=a
 ·rw[e,ai]at hb;cases hb;rw[e];exact s _ _ h
 ·rw[aH e]at hb;exact s _ _ hb
theorem N6{R:List (List Nat)}:∀{d:Nat}{ps:List Nat}{T:PT},AG R d ps T->ps.length<=100->neT d T
 | 0,_,.leaf _,_,_=>trivial
 |_+1,_,.leaf _,_,_=>trivial
 | 0,_,.ask _ _,h,_=>h.elim
 |d+1,ps,.ask i bs,⟨_,hl,hn,hb⟩,hp=>by
  have hpl:=iw (r:=R.getD i []) (ps:=ps)
  refine⟨hn,by omega,λb hbm=>?_⟩
  obtain⟨j,hj⟩:=ab2.mp hbm
  obtain⟨q,hq⟩:∃q,(aE (R.getD i []) ps)[j]?=some q:=⟨_,abk (by have:=(abd.mp hj).1;omega)⟩
  exact N6 (hb j q b hq hj) (abv (jQ (abi hq)) hp)
theorem Ic{H G:Hp}{a:Addr}{o:HO}(s:aG H G):aG (upd H a o) (upd G a o):=λb x hb=>by
 by_cases e:b=a
 ·rw[e,ai]at hb⊢;exact hb
 ·rw[aH e]at hb⊢;exact s _ _ hb
theorem Ie{n:Nat}:(List.range n).Pairwise (· < ·):=List.pairwise_lt_range
theorem Dw:aP ["thing","least","most"] ["thing","least","most"] (aA qv):=⟨rfl,rfl,rfl,by decide +kernel,rfl,by decide +kernel,by decide +kernel⟩
theorem mW:aP ["sign","number"] ["sign"] (aA jr):=⟨rfl,rfl,rfl,by decide +kernel,rfl,by decide +kernel,by decide +kernel⟩
theorem qA:aP ["text"] ["text"] (aA e9):=⟨rfl,rfl,rfl,by decide +kernel,rfl,by decide +kernel,by decide +kernel⟩
theorem EW:aP ["thing"] ["thing"] (aA ud):=⟨rfl,rfl,rfl,by decide +kernel,rfl,by decide +kernel,by decide +kernel⟩
theorem pe:aP ["thing","least","most"] ["thing","least","most"] (aA eo):=⟨rfl,rfl,rfl,by decide +kernel,rfl,by decide +kernel,by decide +kernel⟩
theorem iW:aP ["self","parts","quotes","frees","twin","wide","thin","stray","truth"] ["self","parts","quotes","frees","twin","wide","thin","stray"] (aA bG):=⟨rfl,rfl,rfl,by decide +kernel,rfl,by decide +kernel,by decide +kernel⟩
theorem wC:aP ["self"] ["self"] (aA jt):=⟨rfl,rfl,rfl,by decide +kernel,rfl,by decide +kernel,by decide +kernel⟩
theorem zu:aP ["told"] ["told"] (aA lK):=⟨rfl,rfl,rfl,by decide +kernel,rfl,by decide +kernel,by decide +kernel⟩
theorem nN:aP ["dialect","state","sign"] ["dialect","state","sign"] (aA fV):=⟨rfl,rfl,rfl,by decide +kernel,rfl,by decide +kernel,by decide +kernel⟩
theorem uw:aP ["dialect","sign"] ["dialect","sign"] (aA iL):=⟨rfl,rfl,rfl,by decide +kernel,rfl,by decide +kernel,by decide +kernel⟩
theorem yk:aP ["dialect","quote","sign"] ["dialect","quote","sign"] (aA kC):=⟨rfl,rfl,rfl,by decide +kernel,rfl,by decide +kernel,by decide +kernel⟩
theorem yl:aP ["dialect","sign"] ["dialect","sign"] (aA kD):=⟨rfl,rfl,rfl,by decide +kernel,rfl,by decide +kernel,by decide +kernel⟩
theorem ux:aP ["dialect","quote","sign"] ["dialect","quote","sign"] (aA iM):=⟨rfl,rfl,rfl,by decide +kernel,rfl,by decide +kernel,by decide +kernel⟩
theorem zv:aP ["dialect","quote","sign"] ["dialect","quote","sign"] (aA lM):=⟨rfl,rfl,rfl,by decide +kernel,rfl,by decide +kernel,by decide +kernel⟩
theorem uy:aP ["self","dialect"] ["self","dialect"] (aA iN):=⟨rfl,rfl,rfl,by decide +kernel,rfl,by decide +kernel,by decide +kernel⟩
theorem mw:aP ["self","state","sign","word","quote"] ["self","state","sign"] (aA nC):=⟨rfl,rfl,rfl,by decide +kernel,rfl,by decide +kernel,by decide +kernel⟩
theorem zw:aP ["thing"] ["thing"] (aA lN):=⟨rfl,rfl,rfl,by decide +kernel,rfl,by decide +kernel,by decide +kernel⟩
theorem mC:aP ["dialect","text","turn","kinds","state","sign","step"] ["dialect","text"] (aA EH):=⟨rfl,rfl,rfl,by decide +kernel,rfl,by decide +kernel,by decide +kernel⟩
theorem uz:aP ["walked","kinds","word"] ["walked"] (aA xW):=⟨rfl,rfl,rfl,by decide +kernel,rfl,by decide +kernel,by decide +kernel⟩
theorem cP:aP ["text","kinds","table","row","cell","sign","kind"] ["text","kinds"] (aA qw):=⟨rfl,rfl,rfl,by decide +kernel,rfl,by decide +kernel,by decide +kernel⟩
theorem pJ:aP ["dialect","text","walked"] ["dialect","text"] (aA lO):=⟨rfl,rfl,rfl,by decide +kernel,rfl,by decide +kernel,by decide +kernel⟩
theorem nO:aP ["dialects","text","tables"] ["dialects","text"] (aA fZ):=⟨rfl,rfl,rfl,by decide +kernel,rfl,by decide +kernel,by decide +kernel⟩
theorem jR:aP ["readings","places","parts","place","beside"] ["readings","places"] (aA lP):=⟨rfl,rfl,rfl,by decide +kernel,rfl,by decide +kernel,by decide +kernel⟩
theorem rC:aP ["all_readings","places"] ["all_readings","places"] (aA fP):=⟨rfl,rfl,rfl,by decide +kernel,rfl,by decide +kernel,by decide +kernel⟩
theorem Dy:aP ["tree"] ["tree"] (aA lQ):=⟨rfl,rfl,rfl,by decide +kernel,rfl,by decide +kernel,by decide +kernel⟩
theorem zx:aP ["thing","places"] ["thing","places"] (aA i8):=⟨rfl,rfl,rfl,by decide +kernel,rfl,by decide +kernel,by decide +kernel⟩
theorem jz:aP ["all_readings","places","at","branches","parts"] ["all_readings","places","at","branches"] (aA fc):=⟨rfl,rfl,rfl,by decide +kernel,rfl,by decide +kernel,by decide +kernel⟩
theorem wD:aP ["all_readings","places","thing"] ["all_readings","places","thing"] (aA ju):=⟨rfl,rfl,rfl,by decide +kernel,rfl,by decide +kernel,by decide +kernel⟩
theorem Dz:aP ["dialects","texts","tree","all_readings"] ["dialects","texts","tree"] (aA xC):=⟨rfl,rfl,rfl,by decide +kernel,rfl,by decide +kernel,by decide +kernel⟩
theorem wF:aP ["_law_script","_law_k"] ["_law_script","_law_k"] (aA jv):=⟨rfl,rfl,rfl,by decide +kernel,rfl,by decide +kernel,by decide +kernel⟩
theorem kN:aP ["_law_number_here","_law_salt","_law_one","_law_two"] ["_law_number_here","_law_salt"] (aA lR):=⟨rfl,rfl,rfl,by decide +kernel,rfl,by decide +kernel,by decide +kernel⟩
theorem jA:aP ["_law_cell","_law_salt","_law_number_here","_law_high"] ["_law_cell","_law_salt"] (aA kF):=⟨rfl,rfl,rfl,by decide +kernel,rfl,by decide +kernel,by decide +kernel⟩
theorem fS:aP ["_law_number_here","_law_many","_law_menu_here","_law_found","_law_k","_law_sign"] ["_law_number_here","_law_many","_law_menu_here"] (aA nD):=⟨rfl,rfl,rfl,by decide +kernel,rfl,by decide +kernel,by decide +kernel⟩
theorem pK:aP ["_law_way","_law_every"] ["_law_way"] (aA lS):=⟨rfl,rfl,rfl,by decide +kernel,rfl,by decide +kernel,by decide +kernel⟩
theorem bM:aP ["_law_cell","_law_number_here","_law_flags","_law_sizes","_law_menus_here","_law_parts_here","_law_quotes","_law_frees","_law_truths"] ["_law_cell"] (aA nF):=⟨rfl,rfl,rfl,by decide +kernel,rfl,by decide +kernel,by decide +kernel⟩
theorem eV:aP ["_law_cell","_law_many","_law_number_here","_law_found","_law_k"] ["_law_cell","_law_many"] (aA i9):=⟨rfl,rfl,rfl,by decide +kernel,rfl,by decide +kernel,by decide +kernel⟩
theorem dG:aP ["_law_told_here","_law_state","_law_sign","_law_parts_here","_law_quotes","_law_frees","_law_twin","_law_wide","_law_thin","_law_stray"] ["_law_told_here","_law_state","_law_sign"] (aA nG):=⟨rfl,rfl,rfl,by decide +kernel,rfl,by decide +kernel,by decide +kernel⟩
theorem cA:aP ["_law_told_here","_law_state","_law_sign","_law_parts_here","_law_quotes","_law_frees","_law_twin","_law_wide","_law_thin","_law_stray","_law_word","_law_quote"] ["_law_told_here","_law_state","_law_sign"] (aA nH):=⟨rfl,rfl,rfl,by decide +kernel,rfl,by decide +kernel,by decide +kernel⟩
theorem cW:aP ["_law_told_here","_law_text_here","_law_state","_law_kinds","_law_k","_law_kind","_law_then"] ["_law_told_here","_law_text_here"] (aA kG):=⟨rfl,rfl,rfl,by decide +kernel,rfl,by decide +kernel,by decide +kernel⟩
theorem f6:aP ["_law_text_here","_law_kinds","_law_table_here","_law_row","_law_k"] ["_law_text_here","_law_kinds"] (aA lT):=⟨rfl,rfl,rfl,by decide +kernel,rfl,by decide +kernel,by decide +kernel⟩
theorem nP:aP ["_law_told_here","_law_x","_law_way","_law_some_here"] ["_law_told_here","_law_x"] (aA qx):=⟨rfl,rfl,rfl,by decide +kernel,rfl,by decide +kernel,by decide +kernel⟩
theorem f7:aP ["_law_cells","_law_many","_law_tolds_here","_law_k","_law_cell","_law_xs"] ["_law_cells","_law_many"] (aA lU):=⟨rfl,rfl,rfl,by decide +kernel,rfl,by decide +kernel,by decide +kernel⟩
theorem jB:aP ["_law_told_here","_law_text_here","_law_kinds","_law_word"] ["_law_told_here","_law_text_here"] (aA kH):=⟨rfl,rfl,rfl,by decide +kernel,rfl,by decide +kernel,by decide +kernel⟩
theorem iD:aP ["_law_answers","_law_at","_law_places","_law_parts_here","_law_place","_law_same"] ["_law_answers","_law_at","_law_places"] (aA ja):=⟨rfl,rfl,rfl,by decide +kernel,rfl,by decide +kernel,by decide +kernel⟩
theorem gQ:aP ["_law_tolds_here","_law_menu_here","_law_told_here","_law_sign"] ["_law_tolds_here"] (aA nI):=⟨rfl,rfl,rfl,by decide +kernel,rfl,by decide +kernel,by decide +kernel⟩
theorem gR:aP ["_law_cell","_law_tolds_here","_law_most","_law_xs","_law_menu_here","_law_text_here"] ["_law_cell","_law_tolds_here","_law_most"] (aA jN):=⟨rfl,rfl,rfl,by decide +kernel,rfl,by decide +kernel,by decide +kernel⟩
theorem cQ:aP ["_law_answers","_law_many","_law_places","_law_cell","_law_deep_here","_law_at","_law_parts_here","_law_alike","_law_branches","_law_k"] ["_law_answers","_law_many","_law_places","_law_cell","_law_deep_here"] (aA gJ):=⟨rfl,rfl,rfl,by decide +kernel,rfl,by decide +kernel,by decide +kernel⟩
theorem By:aP ["_law_tree"] ["_law_tree"] (aA jO):=⟨rfl,rfl,rfl,by decide +kernel,rfl,by decide +kernel,by decide +kernel⟩
theorem bP:aP ["_law_tree","_law_x","_law_places","_law_some_here"] ["_law_tree","_law_x"] (aA ff):=⟨rfl,rfl,rfl,by decide +kernel,rfl,by decide +kernel,by decide +kernel⟩
theorem bC:aP ["_law_tree","_law_many","_law_x","_law_word","_law_at","_law_branches","_law_some_here"] ["_law_tree","_law_many","_law_x"] (aA ie):=⟨rfl,rfl,rfl,by decide +kernel,rfl,by decide +kernel,by decide +kernel⟩
theorem gS:aP ["_law_tree","_law_many","_law_cell","_law_deep_here","_law_x","_law_at","_law_branches"] ["_law_tree","_law_many","_law_cell","_law_deep_here"] (aA kI):=⟨rfl,rfl,rfl,by decide +kernel,rfl,by decide +kernel,by decide +kernel⟩
theorem iE:aP ["_law_tree","_law_found","_law_branch"] ["_law_tree"] (aA lV):=⟨rfl,rfl,rfl,by decide +kernel,rfl,by decide +kernel,by decide +kernel⟩
theorem bz:aP ["_law_answers","_law_many","_law_tree","_law_cell","_law_deep_here","_law_x","_law_at","_law_branches","_law_branch","_law_right","_law_places","_law_unlike","_law_parts_here"] ["_law_answers","_law_many","_law_tree","_law_cell","_law_deep_here"] (aA dW):=⟨rfl,rfl,rfl,by decide +kernel,rfl,by decide +kernel,by decide +kernel⟩
theorem iy:aP ["_law_script","_law_tolds_here","_law_many","_law_texts","_law_answers","_law_lent","_law_cell","_law_tree","_law_wrong","_law_other","_law_right","_law_found","_law_deep_here"] ["_law_script"] (aA nJ):=⟨rfl,rfl,rfl,by decide +kernel,rfl,by decide +kernel,by decide +kernel⟩
structure Txt(P:Program)(w:World)(base:Heap)(K:W.Frag)(mg:Str->Option Value)(aM:Nat->Addr)(aR:Nat->FuncData)(dO:Nat->Str):Prop where
 qB:fB K "is_whole" "is_whole" qv (aM 0) (aR 0)
 ym:Binds K (aR 0) ["thing","least","most"] []
 yo:mg "is_whole"=some (.ref (aM 0))
 jC:fB K "is_printable" "is_printable" jr (aM 1) (aR 1)
 nQ:Binds K (aR 1) ["sign"] []
 nR:mg "is_printable"=some (.ref (aM 1))
 jS:fB K "has_signs_alone" "has_signs_alone" e9 (aM 2) (aR 2)
 rD:Binds K (aR 2) ["text"] []
 rE:mg "has_signs_alone"=some (.ref (aM 2))
 AL:fB K "is_text" "is_text" ud (aM 3) (aR 3)
 Ig:Binds K (aR 3) ["thing"] []
 Ih:mg "is_text"=some (.ref (aM 3))
 eB:fB K "are_unlike_signs" "are_unlike_signs" eo (aM 4) (aR 4)
 gj:Binds K (aR 4) ["thing","least","most"] []
 gk:mg "are_unlike_signs"=some (.ref (aM 4))
 qC:Mh K "__init__" "Dialect.__init__" bG (aM 5) (aR 5) (.ref (aM 63))
 qD:Binds K (aR 5) ["self","parts","quotes","frees","twin","wide","thin","stray"] []
 yp:fB K "told" "Dialect.told" jt (aM 6) (aR 6)
 yq:Binds K (aR 6) ["self"] []
 yr:Meth K (aM 54) "told" (aM 6)
 mD:fB K "dialect_of" "dialect_of" lK (aM 7) (aR 7)
 rF:Binds K (aR 7) ["told"] []
 rG:mg "dialect_of"=some (.ref (aM 7))
 iX:fB K "step_at_beginning" "step_at_beginning" fV (aM 8) (aR 8)
 pq:Binds K (aR 8) ["dialect","state","sign"] []
 pA:mg "step_at_beginning"=some (.ref (aM 8))
 mX:fB K "step_in_plain" "step_in_plain" iL (aM 9) (aR 9)
 wG:Binds K (aR 9) ["dialect","sign"] []
 wH:mg "step_in_plain"=some (.ref (aM 9))
 pL:fB K "step_within" "step_within" kC (aM 10) (aR 10)
 zy:Binds K (aR 10) ["dialect","quote","sign"] []
 zz:mg "step_within"=some (.ref (aM 10))
 kO:fB K "step_behind" "step_behind" kD (aM 11) (aR 11)
 pM:Binds K (aR 11) ["dialect","sign"] []
 pN:mg "step_behind"=some (.ref (aM 11))
 mY:fB K "step_in_doubt" "step_in_doubt" iM (aM 12) (aR 12)
 wI:Binds K (aR 12) ["dialect","quote","sign"] []
 wJ:mg "step_in_doubt"=some (.ref (aM 12))
 rH:fB K "step_freed" "step_freed" lM (aM 13) (aR 13)
 BA:Binds K (aR 13) ["dialect","quote","sign"] []
 BB:mg "step_freed"=some (.ref (aM 13))
 wK:fB K "__init__" "Turn.__init__" iN (aM 14) (aR 14)
 wL:Binds K (aR 14) ["self","dialect"] []
 DA:fB K "step" "Turn.step" nC (aM 15) (aR 15)
 DB:Binds K (aR 15) ["self","state","sign"] []
 DC:Meth K (aM 55) "step" (aM 15)
 rJ:fB K "check_text" "check_text" lN (aM 16) (aR 16)
 BC:Binds K (aR 16) ["thing"] []
 BD:mg "check_text"=some (.ref (aM 16))
 KR:fB K "walk" "walk" EH (aM 17) (aR 17)
 Pq:Binds K (aR 17) ["dialect","text"] []
 Pr:mg "walk"=some (.ref (aM 17))
 DE:fB K "end_of" "end_of" xW (aM 18) (aR 18)
 KS:Binds K (aR 18) ["walked"] []
 KU:mg "end_of"=some (.ref (aM 18))
 yt:fB K "table_of" "table_of" qw (aM 19) (aR 19)
 EX:Binds K (aR 19) ["text","kinds"] []
 EY:mg "table_of"=some (.ref (aM 19))
 rK:fB K "reading_of" "reading_of" lO (aM 20) (aR 20)
 BE:Binds K (aR 20) ["dialect","text"] []
 BF:mg "reading_of"=some (.ref (aM 20))
 pO:fB K "readings_of" "readings_of" fZ (aM 21) (aR 21)
 zA:Binds K (aR 21) ["dialects","text"] []
 zB:mg "readings_of"=some (.ref (aM 21))
 qE:fB K "parts_of" "parts_of" lP (aM 22) (aR 22)
 yu:Binds K (aR 22) ["readings","places"] []
 yw:mg "parts_of"=some (.ref (aM 22))
 k7:fB K "are_read_alike" "are_read_alike" fP (aM 23) (aR 23)
 uG:Binds K (aR 23) ["all_readings","places"] []
 uH:mg "are_read_alike"=some (.ref (aM 23))
 qF:fB K "depth_of" "depth_of" lQ (aM 24) (aR 24)
 yx:Binds K (aR 24) ["tree"] []
 yy:mg "depth_of"=some (.ref (aM 24))
 rL:fB K "are_places" "are_places" i8 (aM 25) (aR 25)
 BG:Binds K (aR 25) ["thing","places"] []
 BH:mg "are_places"=some (.ref (aM 25))
 jT:fB K "sorts_by_asking" "sorts_by_asking" fc (aM 26) (aR 26)
 rM:Binds K (aR 26) ["all_readings","places","at","branches"] []
 rN:mg "sorts_by_asking"=some (.ref (aM 26))
 jD:fB K "sorts_places" "sorts_places" ju (aM 27) (aR 27)
 nS:Binds K (aR 27) ["all_readings","places","thing"] []
 nU:mg "sorts_places"=some (.ref (aM 27))
 oW:fB K "sorts" "sorts" xC (aM 28) (aR 28)
 rO:Binds K (aR 28) ["dialects","texts","tree"] []
 rP:mg "sorts"=some (.ref (aM 28))
 cX:fB K "_law_cell_at" "_law_cell_at" jv (aM 29) (aR 29)
 dX:Binds K (aR 29) ["_law_script","_law_k"] []
 dY:mg "_law_cell_at"=some (.ref (aM 29))
 cN:fB K "_law_mixed" "_law_mixed" lR (aM 30) (aR 30)
 dH:Binds K (aR 30) ["_law_number_here","_law_salt"] []
 dI:mg "_law_mixed"=some (.ref (aM 30))
 pP:fB K "_law_number" "_law_number" kF (aM 31) (aR 31)
 zC:Binds K (aR 31) ["_law_cell","_law_salt"] []
 zD:mg "_law_number"=some (.ref (aM 31))
 jU:fB K "_law_some" "_law_some" nD (aM 32) (aR 32)
 nW:Binds K (aR 32) ["_law_number_here","_law_many","_law_menu_here"] []
 nY:mg "_law_some"=some (.ref (aM 32))
 rQ:fB K "_law_menus" "_law_menus" lS (aM 33) (aR 33)
 BI:Binds K (aR 33) ["_law_way"] []
 BJ:mg "_law_menus"=some (.ref (aM 33))
 vG:fB K "_law_told" "_law_told" nF (aM 34) (aR 34)
 DF:Binds K (aR 34) ["_law_cell"] []
 DG:mg "_law_told"=some (.ref (aM 34))
 mE:fB K "_law_drawn" "_law_drawn" i9 (aM 35) (aR 35)
 rR:Binds K (aR 35) ["_law_cell","_law_many"] []
 rS:mg "_law_drawn"=some (.ref (aM 35))
 vH:fB K "_law_open" "_law_open" nG (aM 36) (aR 36)
 DH:Binds K (aR 36) ["_law_told_here","_law_state","_law_sign"] []
 DI:mg "_law_open"=some (.ref (aM 36))
 vI:fB K "_law_step" "_law_step" nH (aM 37) (aR 37)
 DJ:Binds K (aR 37) ["_law_told_here","_law_state","_law_sign"] []
 DK:mg "_law_step"=some (.ref (aM 37))
 pQ:fB K "_law_walked" "_law_walked" kG (aM 38) (aR 38)
 zE:Binds K (aR 38) ["_law_told_here","_law_text_here"] []
 zF:mg "_law_walked"=some (.ref (aM 38))
 rT:fB K "_law_table" "_law_table" lT (aM 39) (aR 39)
 BK:Binds K (aR 39) ["_law_text_here","_law_kinds"] []
 BL:mg "_law_table"=some (.ref (aM 39))
 yz:fB K "_law_kin" "_law_kin" qx (aM 40) (aR 40)
 EZ:Binds K (aR 40) ["_law_told_here","_law_x"] []
 E5:mg "_law_kin"=some (.ref (aM 40))
 rV:fB K "_law_tolds" "_law_tolds" lU (aM 41) (aR 41)
 BN:Binds K (aR 41) ["_law_cells","_law_many"] []
 BO:mg "_law_tolds"=some (.ref (aM 41))
 pR:fB K "_law_answer" "_law_answer" kH (aM 42) (aR 42)
 zG:Binds K (aR 42) ["_law_told_here","_law_text_here"] []
 zH:mg "_law_answer"=some (.ref (aM 42))
 gT:fB K "_law_parts" "_law_parts" ja (aM 43) (aR 43)
 jb:Binds K (aR 43) ["_law_answers","_law_at","_law_places"] []
 jc:mg "_law_parts"=some (.ref (aM 43))
 vJ:fB K "_law_menu" "_law_menu" nI (aM 44) (aR 44)
 DL:Binds K (aR 44) ["_law_tolds_here"] []
 DM:mg "_law_menu"=some (.ref (aM 44))
 vK:fB K "_law_text" "_law_text" jN (aM 45) (aR 45)
 DN:Binds K (aR 45) ["_law_cell","_law_tolds_here","_law_most"] []
 DO:mg "_law_text"=some (.ref (aM 45))
 mF:fB K "_law_grown" "_law_grown" gJ (aM 46) (aR 46)
 rW:Binds K (aR 46) ["_law_answers","_law_many","_law_places","_law_cell","_law_deep_here"] []
 rY:mg "_law_grown"=some (.ref (aM 46))
 nZ:fB K "_law_deep" "_law_deep" jO (aM 47) (aR 47)
 vM:Binds K (aR 47) ["_law_tree"] []
 vN:mg "_law_deep"=some (.ref (aM 47))
 jV:fB K "_law_wrong_leaf" "_law_wrong_leaf" ff (aM 48) (aR 48)
 rZ:Binds K (aR 48) ["_law_tree","_law_x"] []
 sd:mg "_law_wrong_leaf"=some (.ref (aM 48))
 k8:fB K "_law_wrong_ask" "_law_wrong_ask" ie (aM 49) (aR 49)
 uJ:Binds K (aR 49) ["_law_tree","_law_many","_law_x"] []
 uM:mg "_law_wrong_ask"=some (.ref (aM 49))
 kP:fB K "_law_spoilt" "_law_spoilt" kI (aM 50) (aR 50)
 pS:Binds K (aR 50) ["_law_tree","_law_many","_law_cell","_law_deep_here"] []
 pT:mg "_law_spoilt"=some (.ref (aM 50))
 mG:fB K "_law_under" "_law_under" lV (aM 51) (aR 51)
 se:Binds K (aR 51) ["_law_tree"] []
 sf:mg "_law_under"=some (.ref (aM 51))
 iz:fB K "_law_otherwise" "_law_otherwise" dW (aM 52) (aR 52)
 k9:Binds K (aR 52) ["_law_answers","_law_many","_law_tree","_law_cell","_law_deep_here"] []
 lg:mg "_law_otherwise"=some (.ref (aM 52))
 Sk:fB K "law" "law" nJ (aM 53) (aR 53)
 aa0:Binds K (aR 53) ["_law_script"] []
 aa1:mg "law"=some (.ref (aM 53))
 aT:IX K (aM 54)
 Ii:mg "Dialect"=some (.ref (aM 54))
 Ij:Mk K (aM 54) (aM 5)
 cE:gH K (aM 54) "parts"
 cS:gH K (aM 54) "quotes"
 cF:gH K (aM 54) "frees"
 fG:gH K (aM 54) "twin"
 dZ:gH K (aM 54) "wide"
 d7:gH K (aM 54) "thin"
 eN:gH K (aM 54) "stray"
 jW:IX K (aM 55)
 Pu:mg "Turn"=some (.ref (aM 55))
 Pw:Mk K (aM 55) (aM 14)
 bY:gH K (aM 55) "dialect"
 KW:mg "DialectError"=some (.ref (aM 56))
 yC:J8 K (aM 56) (aM 57) zm none
 KY:mg "NoText"=some (.ref (aM 58))
 KZ:J8 K (aM 58) (aM 59) (.ref (aM 56)::zm) none
 N7:mg "NoDialect"=some (.ref (aM 60))
 N8:J8 K (aM 60) (aM 61) (.ref (aM 56)::zm) none
 yD:mg "all"=none
 xF:mg "bool"=none
 E6:mg "int"=none
 bH:mg "isinstance"=none
 bB:mg "len"=none
 fh:mg "list"=none
 E7:mg "max"=none
 Px:mg "ord"=none
 fH:mg "range"=none
 DP:mg "reversed"=none
 Ik:mg "sorted"=none
 BP:mg "str"=none
 n8:mg "tuple"=none
 E8:mg "zip"=none
 oX:∃t,mg "LINE"=some (.str (dO 0) t)
 mH:(dO 0)=("\n":Str)
 zI:∃t,mg "MOST_SIGNS"=some (.int 2000 t)
 oh:mg "START"=some (.ref (aM 62))
 oi:∃(o:Obj)(its:Array Value)(n:Nat),K.lookup (aM 62)=some o/\o.cls=.type "tuple"/\o.data=.seq its n/\its.size<=sizeLine/\Vals [.str ("row":Str),.str ("":Str)] its.toList
section
variable{P:Program}{w:World}{K:W.Frag}{mg:Str->Option Value}{base:Heap}{aM:Nat->Addr}{aR:Nat->FuncData}{dO:Nat->Str}
inductive vO(K:W.Frag)(vs:List V)(H:Hp)(Q:VK)(E_:XK):Prop where
 |mk (n:Nat) (v:V) (t:Th) (a b:Int):(vs=[v,.int a,.int b])->(RT H n v t)->(Q (.bl (gP t a b)) H)->vO K vs H Q E_
section
variable(T:Txt P w base K mg aM aR dO)
include T
abbrev zzz(_:Txt P w base K mg aM aR dO)(e)(n i:Nat)(a b):=bu P w K mg base e n (aM i) (aR i) a b
theorem vP:zzz T eH 1 0 ["thing","least","most"] (vO K):=by
 refine T.qB.ok Dw 'g' 'a'
 ·obtain⟨n,v,t,a,b,rfl,_⟩:=h;rfl
 ·have hu:=bx hr
  obtain⟨n,v,t,a,b,rfl,hv,k⟩:=h
  refine⟨_,(aq (aO (PW.pt (ia (dm (bT (gv (bW K rfl) T.bH (af (pv 0) (af (I0 "int" T.E6) ak))))) (gG (bT (gv (bW K rfl) T.bH (af (pv 0) (af (I0 "bool" T.xF) ak))))))) (ay (aC iV)) aD)
   (ay (aC (xK (AD Jq (pv 0) (pv 1)) (xJ (AD NP (pv 0) (pv 2))))))),?_⟩
  rcases hv.three with ⟨_,l,es,ts,_,rfl,rfl,ha,_⟩|⟨_,l,es,ts,_,rfl,rfl,ha,_⟩|⟨rfl,e⟩
  ·exact⟨_,O,_,_,_,false,O,.lst ha,.inl ⟨_,O,O⟩,false,O,fD k⟩
  ·exact⟨_,O,_,_,_,false,O,.tup ha,.inl ⟨_,O,O⟩,false,O,fD k⟩
  cases v with
  |non=>exact⟨_,rfl,_,_,_,false,rfl,.non,.inl ⟨_,rfl,rfl⟩,false,rfl,fD k⟩
  |str z=>exact⟨_,rfl,_,_,_,false,rfl,.str z,.inl ⟨_,rfl,rfl⟩,false,rfl,fD k⟩
  |bl x=>exact⟨_,rfl,_,_,_,true,rfl,.bl x,.inl ⟨_,rfl,rfl⟩,true,rfl,bE ⟨_,rfl,_,_,_,true,rfl,.bl x,.inl ⟨_,rfl,rfl⟩,true,rfl,fD k⟩⟩
  |int n =>
   refine⟨_,O,_,_,_,true,O,.int n,.inl ⟨_,O,O⟩,true,O,bE ⟨_,O,_,_,_,false,O,.int n,.inl ⟨_,O,O⟩,false,O,bE ?_⟩⟩
   have k:Q (.bl (decide (a<=n/\n<=b))) H:=k
   refine⟨_,O,_,O,_,_,O,O,_,O,?_⟩
   by_cases h1:a<=n
   ·rw[abj (abo h1)]
    refine⟨_,O,_,O,_,_,O,O,?_⟩
    show Q (.bl (decide (n<=b))) H
    rw[show decide (n<=b)=decide (a<=n/\n<=b) by rw[abS,abU,abU];exact⟨λz=>⟨h1,z⟩,λz=>z.2⟩]
    exact k
   ·rw[abb (by rw[abn h1];decide)]
    rw[show decide (a<=n/\n<=b)=false from abn λz=>h1 z.1]at k
    exact k
  |_=>cases e
inductive mZ(vs:List V)(H:Hp)(Q:VK)(E_:XK):Prop where
 |mk (c:Nat):(vs=[.str (sg c)])->(Q (.bl (decide (Pn c))) H)->mZ vs H Q E_
theorem m5:zzz T eH 1 1 ["sign"] mZ:=by
 refine T.jC.ok mW 'g' 'a'
 ·obtain⟨c,rfl,_⟩:=h;rfl
 ·have hu:=bx hr
  obtain⟨c,rfl,k⟩:=h
  refine⟨_,(aq (dj 1 mW.nd (gv Jt T.Px (af (pv 0) ak)))
   (ay (aC (xK (AD Jq (pv 1) au) (xK (AD NP (pv 1) au) (xJ (AD pH (pv 1) au))))))),?_⟩
  refine⟨_,O,_,O,O,?_⟩
  refine⟨_,O,_,_,O,O,_,O,bf (λh1=>?_) (λh1=>?_)⟩
  ·have h1:(32:Int)<=((c:Nat):Int):=abT h1
   refine⟨_,O,_,_,O,O,_,O,bf (λh2=>?_) (λh2=>?_)⟩
   ·have h2:((c:Nat):Int)<=126:=abT h2
    refine⟨_,O,O,?_⟩
    have e:(!decide (V.int ((c:Nat):Int)=V.int 37))=decide (Pn c):=by
     by_cases h3:c=37
     ·subst h3;decide
     ·have n1:¬(V.int ((c:Nat):Int)=V.int 37):=λz=>h3 (by injection z with z;omega)
      rw[abn n1,abo (show Pn c from⟨by omega,by omega,h3⟩)];rfl
    show Q (.bl (!decide (V.int ((c:Nat):Int)=V.int 37))) H
    rw[e];exact k
   ·have e:decide (((c:Nat):Int)<=126)=decide (Pn c):=by
     have n1:¬((c:Nat):Int)<=126:=λz=>h2 (abo z)
     rw[abn n1,abn (λz:Pn c=>n1 (by have:=z.2.1;omega))]
    rw[←e,show decide (((c:Nat):Int)<=126)=false from Bool.eq_false_iff.mpr h2]at k
    exact k
  ·have e:decide ((32:Int)<=((c:Nat):Int))=decide (Pn c):=by
    have n1:¬(32:Int)<=((c:Nat):Int):=λz=>h1 (abo z)
    rw[abn n1,abn (λz:Pn c=>n1 (by have:=z.1;omega))]
   rw[←e,show decide ((32:Int)<=((c:Nat):Int))=false from Bool.eq_false_iff.mpr h1]at k
   exact k
inductive jE(vs:List V)(H:Hp)(Q:VK)(E_:XK):Prop where
 |mk (z:Str):(vs=[.str z])->(z.length<=2000)->(∀H',aG H H'->Q (.bl (textOk z)) H')->jE vs H Q E_
theorem qG:zzz T eH 2 2 ["text"] jE:=by
 have jF:=m5 T
 refine T.jS.ok qA 'g' 'a'
 ·obtain⟨z,rfl,_⟩:=h;rfl
 ·have hu:=bx hr
  obtain⟨z,rfl,hz,k⟩:=h
  refine⟨_,(ay (aC (gv (kW K rfl rfl) T.yD (af (di rfl (show aX ["text"] (aA e9) ["sign"] 1 [] _ from zp) (Be (pv 0)) (λ_ _ _ _=>(e7 0 QW)) (λ_ _ _ _=>dh) (λ_ _ _ _=>(Ro (AD aU (pv 0) (oN rfl T.oX.choose_spec)) (xJ (dR jF hr T.nR T.jC.kp T.nQ (af (pv 0) ak)))))) ak)))),?_⟩
  refine⟨_,O,z,O,λD hD=>?_⟩
  have hsz:z.cps.toList.length=z.length:=by rw[abA];rfl
  refine CU (λi ys τ H2=>(∃v,τ=[v])/\aG H H2/\H2 D=some (.lst ys)/\ys=((z.cps.toList.take i).map Gx).map V.bl) ⟨⟨_,rfl⟩,ah hD,ai,rfl⟩ (λi ys τ H2 _ p=>p.2.2.1) ?_ ?_
  ·rintro i c ys τ H2 hi ⟨⟨v,rfl⟩,s2,hl,rfl⟩
   have hil:i<z.cps.toList.length:=(abd.mp hi).1
   have hlen:(((z.cps.toList.take i).map Gx).map V.bl).length<sizeLine:=by
    rw[aa9,aa9,abJ]
    exact abr (show min i z.cps.toList.length<=2000 by omega) 'c'
   have fin:∀b,b=Gx c->H2 D=some (.lst (((z.cps.toList.take i).map Gx).map V.bl))/\(((z.cps.toList.take i).map Gx).map V.bl).length<sizeLine/\(∃v,[some (V.str (sg c))]=[v])/\aG H (upd H2 D (.lst (((z.cps.toList.take i).map Gx).map V.bl++[.bl b])))/\(upd H2 D (.lst (((z.cps.toList.take i).map Gx).map V.bl++[.bl b]))) D=some (.lst (((z.cps.toList.take i).map Gx).map V.bl++[.bl b]))/\((z.cps.toList.take i).map Gx).map V.bl++[.bl b]=((z.cps.toList.take (i+1)).map Gx).map V.bl:=λb hb=>by
    refine⟨hl,hlen,⟨_,O⟩,aL hD s2,ai,?_⟩
    rw[bw hi,abw,abw,hb];rfl
   refine o7 ?_
   refine⟨_,O,O,_,O,bf (λh=>?_) (λh=>?_)⟩
   ·have h:decide (V.str (sg c)=V.str (dO 0))=true:=h
    have hc:c=10:=by
     have e:=abT h
     rw[T.mH]at e
     have e2:sg c=sg 10:=(V.str.inj e).trans (by decide +kernel)
     have:=congrArg (λz:Str=>z.cps.toList) e2
     exact(List.cons.inj (show [c]=[10]from this)).1
    exact fin true (by rw[hc];exact(abo (.inl rfl)).symm)
   ·have hc:c≠10:=sgL T.mH h
    refine⟨_,O,c,O,fin _ ?_⟩
    unfold Gx
    by_cases hp:Pn c
    ·rw[abo hp,abo (.inr hp)]
    ·rw[abn hp,abn (λz=>z.elim hc hp)]
  ·rintro ys τ H2 ⟨⟨v,rfl⟩,s2,hl,rfl⟩
   refine⟨D,(z.cps.toList.take z.cps.toList.length).map Gx,O,aN.of hl,?_⟩
   have e:((z.cps.toList.take z.cps.toList.length).map Gx).all id=textOk z:=by
    rw[aby (abh _),List.all_map];rfl
   rw[e]
   exact k H2 s2
inductive yE(K:W.Frag)(vs:List V)(H:Hp)(Q:VK)(E_:XK):Prop where
 |mk (v:V):(vs=[v])->(MB H v)->((∀z,v=.str z->z.length<=10000))->(∀H',aG H H'->Q (.bl (Pc v)) H')->yE K vs H Q E_
theorem E9:zzz T eH 3 3 ["thing"] (yE K):=by
 have sj:=qG T
 refine T.AL.ok EW 'g' 'a'
 ·obtain⟨v,rfl,_⟩:=h;rfl
 ·have hu:=bx hr
  obtain⟨v,rfl,hk,hb,k⟩:=h
  refine⟨_,(aq (aO (PW.pt (ia (dm (bT (gv (bW K rfl) T.bH (af (pv 0) (af (I0 "str" T.BP) ak))))) (gG (cC qR (gv d9 T.bB (af (pv 0) ak)) (Mj rfl T.zI.choose_spec))))) (ay (aC iV)) aD)
   (ay (aC (dR sj hr T.rE T.jS.kp T.rD (af (pv 0) ak))))),?_⟩
  cases hk with
  |str z =>
   have hb:=hb z rfl
   refine⟨_,O,_,_,_,true,O,.str _,.inl ⟨_,O,O⟩,true,O,bE ⟨_,O,z,O,abv hb 'c',_,_,O,O,_,O,bf (λh1=>?_) (λh1=>?_)⟩⟩
   ·have e:Pc (.str z)=false:=by
     have n1:¬z.length<=2000:=λh2=>by have:=abT h1;omega
     show(decide (z.length<=2000)&&textOk z)=false
     rw[abn n1];rfl
    have kk:=k H (aG.refl H)
    rw[e]at kk
    exact kk
   ·have n1:z.length<=2000:=by
     rcases Nat.lt_or_ge 2000 z.length with h2|h2
     ·exact absurd (abo (show(2000:Int)<(z.length:Int) by omega)) h1
     ·exact h2
    have e:Pc (.str z)=textOk z:=by
     show(decide (z.length<=2000)&&textOk z)=_
     rw[abo n1];rfl
    rw[e]at k
    exact⟨_,O,z,O,n1,k⟩
  |non=>exact⟨_,rfl,_,_,_,false,rfl,.non,.inl ⟨_,rfl,rfl⟩,false,rfl,fD (k H (aG.refl H))⟩
  |bl b=>exact⟨_,rfl,_,_,_,false,rfl,.bl _,.inl ⟨_,rfl,rfl⟩,false,rfl,fD (k H (aG.refl H))⟩
  |int n=>exact⟨_,rfl,_,_,_,false,rfl,.int _,.inl ⟨_,rfl,rfl⟩,false,rfl,fD (k H (aG.refl H))⟩
  |lst e f=>exact⟨_,rfl,_,_,_,false,rfl,.lst e,.inl ⟨_,rfl,rfl⟩,false,rfl,fD (k H (aG.refl H))⟩
  |tup e f=>exact⟨_,rfl,_,_,_,false,rfl,.tup e,.inl ⟨_,rfl,rfl⟩,false,rfl,fD (k H (aG.refl H))⟩
  |dic e f=>exact⟨_,rfl,_,_,_,false,rfl,.dK e,.inl ⟨_,rfl,rfl⟩,false,rfl,fD (k H (aG.refl H))⟩
inductive iY(vs:List V)(H:Hp)(Q:VK)(E_:XK):Prop where
 |mk (z:Str) (lo hi:Int):(vs=[.str z,.int lo,.int hi])->(Sg z)->(lo<=z.length)->((z.length:Int)<=hi)->(z.length<=1000)->(∀H',aG H H'->Q (.bl true) H')->iY vs H Q E_
theorem pB:zzz T eH 2 4 ["thing","least","most"] iY:=by
 have jF:=m5 T
 refine T.eB.ok pe 'g' 'a'
 ·obtain⟨z,lo,hi,rfl,_⟩:=h;rfl
 ·have hu:=bx hr
  obtain⟨z,lo,hi,rfl,g,hlo,hhi,hz,k⟩:=h
  have zJ:z.length<=sizeLine:=abv hz 'c'
  refine⟨_,(aq (aO (PW.pt (ia (dm (bT (gv (bW K rfl) T.bH (af (pv 0) (af (I0 "str" T.BP) ak))))) (ia (cC vp (gv d9 T.bB (af (pv 0) ak)) (pv 1)) (gG (cC qR (gv d9 T.bB (af (pv 0) ak)) (pv 2)))))) (ay (aC iV)) aD)
   (ay (aC (gv (kW K rfl rfl) T.yD (af (di rfl (show aX ["thing","least","most"] (aA eo) ["sign","thing"] 1 [0] _ from zp) (Be (pv 0)) (λ_ _ _ _=>(e7 0 (show(["sign","thing"]:List Str).Nodup by decide +kernel))) (λ_ _ _ _=>dh) (λ_ _ _ _=>(xK (dR jF hr T.nR T.jC.kp T.nQ (af (pv 0) ak)) (xJ (AD aU (dw K rfl PySem.F.plainAttrs_str PySem.F.slot_str_count PySem.F.type_str_count CY (pv 1) (af (pv 0) ak)) au))))) ak))))),?_⟩
  refine⟨_,O,_,_,_,true,O,.str _,.inl ⟨_,O,O⟩,true,O,bE ?_⟩
  refine⟨_,O,z,O,zJ,_,O,_,_,O,O,_,O,N1 'b' ?_⟩
  refine⟨_,O,z,O,zJ,_,O,_,_,O,O,_,O,N1 'b' ?_⟩
  refine⟨_,O,z,O,λD hD=>?_⟩
  have hsz:z.cps.toList.length=z.length:=by rw[abA];rfl
  refine CU (λi ys τ H2=>(∃v,τ=[v,some (.str z)])/\aG H H2/\H2 D=some (.lst ys)/\ys=(List.replicate i true).map V.bl) ⟨⟨_,rfl⟩,ah hD,ai,rfl⟩ (λi ys τ H2 _ p=>p.2.2.1) ?_ ?_
  ·rintro i c ys τ H2 hi ⟨⟨v,rfl⟩,s2,hl,rfl⟩
   have hc:c∈z.cps.toList:=abi hi
   have hil:i<z.cps.toList.length:=(abd.mp hi).1
   refine o7 ?_
   refine⟨_,O,c,O,_,O,xX (abo (g.pr c hc)) ?_⟩
   refine⟨_,O,O,_,O,z,c,O,O,O,?_⟩
   have e:decide (V.int (PyProof.Rows.cnt c z.cps.toList)=V.int 1)=true:=by rw[Ge g.nd hc];exact abo rfl
   rw[e]
   refine⟨hl,?_,⟨_,O⟩,aL hD s2,ai,?_⟩
   ·rw[aa9,ack]
    exact abD (show i<1001 by omega) 'c'
   ·rw[List.replicate_succ',abw];rfl
  ·rintro ys τ H2 ⟨⟨v,rfl⟩,s2,hl,rfl⟩
   refine⟨D,List.replicate _ true,O,aN.of hl,?_⟩
   have e:(List.replicate z.cps.toList.length true).all id=true:=by
    rw[abK]
    intro b hb
    exact(List.mem_replicate.mp hb).2
   rw[e]
   exact k H2 s2
inductive iZ(C:Addr)(vs:List V)(H:Hp)(Q:VK)(E_:XK):Prop where
 |mk (x dx:Addr) (p q f:Str) (b1 b2 b3 b4:Bool):(vs=.ref x::pI p q f b1 b2 b3 b4)->(H x=some (.ins C dx []))->(Gd p q f)->(∀H',H' x=some (.ins C dx (Gn p q f b1 b2 b3 b4))->(∀b o,H b=some o->b≠x->H' b=some o)->Q .non H')->iZ C vs H Q E_
theorem pC:zzz T eH 3 5 ["self","parts","quotes","frees","twin","wide","thin","stray"] (iZ (aM 54)):=by
 have gm:=pB T
 refine T.qC.ok iW 'g' 'a'
 ·obtain⟨x,dx,p,q,f,b1,b2,b3,b4,rfl,_⟩:=h;rfl
 ·have hu:=bx hr
  obtain⟨x,dx,p,q,f,b1,b2,b3,b4,rfl,hx,g,k⟩:=h
  have hp1:=g.p1;have hp3:=g.p3;have hq2:=g.q2;have hf2:=g.f2
  refine⟨_,(aq (aO (dm (bT (dR gm hr T.gk T.eB.kp T.gj (af (pv 1) (af au (af au ak)))))) (ay nq) aD)
   (aq (aO (dm (bT (dR gm hr T.gk T.eB.kp T.gj (af (pv 2) (af au (af au ak)))))) (ay nq) aD)
   (aq (aO (dm (bT (dR gm hr T.gk T.eB.kp T.gj (af (pv 3) (af au (af au ak)))))) (ay nq) aD)
   (aq (gc abZ rfl (Mg K rfl (aB (af (pv 4) (af (pv 5) (af (pv 6) (af (pv 7) ak)))))) (e7 8 iW.nd)
   (ay (aO (dm (bT (gv (bW K rfl) T.bH (af (pv 8) (af (I0 "bool" T.xF) ak))))) (ay nq) aD)))
   (aq (nB (pv 0) (pv 1) rfl)
   (aq (nB (pv 0) (pv 2) rfl)
   (aq (nB (pv 0) (pv 3) rfl)
   (aq (nB (pv 0) (pv 4) rfl)
   (aq (nB (pv 0) (pv 5) rfl)
   (aq (nB (pv 0) (pv 6) rfl)
   (ay (nB (pv 0) (pv 7) rfl)))))))))))),?_⟩
  refine⟨_,O,p,1,3,O,g.gp,by omega,by omega,by omega,λH1 s1=>⟨true,O,bE ?_⟩⟩
  refine⟨_,O,q,0,2,O,g.gq,by omega,by omega,by omega,λH2 s2=>⟨true,O,bE ?_⟩⟩
  refine⟨_,O,f,0,2,O,g.gf,by omega,by omega,by omega,λH3 s3=>⟨true,O,bE ?_⟩⟩
  refine⟨_,O,_,O,_,O,_,O,(by show 4<=sizeLine;decide),λt ht=>⟨t,O,⟨_,bD.of ai⟩,?_⟩⟩
  have W2:aG H (upd H3 t (.tup [.bl b1,.bl b2,.bl b3,.bl b4])):=((s1.trans s2).trans s3).trans (ah ht)
  have Vs:(upd H3 t (.tup [.bl b1,.bl b2,.bl b3,.bl b4])) t=some (.tup [.bl b1,.bl b2,.bl b3,.bl b4]):=ai
  generalize upd H3 t (.tup [.bl b1,.bl b2,.bl b3,.bl b4])=H4 at W2 Vs⊢
  refine LR (K:=K) (a:=t) (xs:=[.bl b1,.bl b2,.bl b3,.bl b4]) (λi σ H5=>H5=H4/\∃v,σ=[some (.ref x),some (.str p),some (.str q),some (.str f),some (.bl b1),some (.bl b2),some (.bl b3),some (.bl b4),v]) ⟨rfl,_,rfl⟩ (λi σ H5 _ q=>by rw[q.1];exact bD.of Vs) ?_ ?_
  ·rintro i y σ H5 hi ⟨rfl,v,rfl⟩
   obtain⟨b,rfl⟩:∃b,y=V.bl b:=by
    have hi4:i<4:=(abd.mp hi).1
    match i,hi4,hi with
    | 0,_,hi=>exact⟨_,(abx hi).symm⟩
    | 1,_,hi=>exact⟨_,(abx hi).symm⟩
    | 2,_,hi=>exact⟨_,(abx hi).symm⟩
    | 3,_,hi=>exact⟨_,(abx hi).symm⟩
   refine⟨_,O,_,_,_,true,O,.bl _,.inl ⟨_,O,O⟩,true,O,bE ?_⟩
   exact⟨O,_,O⟩
  ·rintro σ H5 ⟨rfl,v,rfl⟩
   have hx5:=W2 _ _ hx
   refine⟨_,O,_,O,x,(aM 54),dx,_,O,hx5,T.aT,T.cE,(by show 0<1000;decide),_,O,_,O,x,(aM 54),dx,_,O,ai,T.aT,T.cS,(by show 1<1000;decide),_,O,_,O,x,(aM 54),dx,_,O,ai,T.aT,T.cF,(by show 2<1000;decide),_,O,_,O,x,(aM 54),dx,_,O,ai,T.aT,T.fG,(by show 3<1000;decide),_,O,_,O,x,(aM 54),dx,_,O,ai,T.aT,T.dZ,(by show 4<1000;decide),_,O,_,O,x,(aM 54),dx,_,O,ai,T.aT,T.d7,(by show 5<1000;decide),_,O,_,O,x,(aM 54),dx,_,O,ai,T.aT,T.eN,(by show 6<1000;decide),?_⟩
   refine k _ ai λb o e hb=>?_
   rw[aH hb,aH hb,aH hb,aH hb,aH hb,aH hb,aH hb]
   exact W2 _ _ e
inductive m6(C:Addr)(vs:List V)(H:Hp)(Q:VK)(E_:XK):Prop where
 |mk (x dx:Addr) (p q f:Str) (b1 b2 b3 b4:Bool):(vs=[.ref x])->(H x=some (.ins C dx (Gn p q f b1 b2 b3 b4)))->(∀t,H t=none->Q (.ref t) (upd H t (.tup (pI p q f b1 b2 b3 b4))))->m6 C vs H Q E_
theorem wM:zzz T eH 1 6 ["self"] (m6 (aM 54)):=by
 refine T.yp.ok wC 'g' 'a'
 ·obtain⟨x,dx,p,q,f,b1,b2,b3,b4,rfl,_⟩:=h;rfl
 ·have hu:=bx hr
  obtain⟨x,dx,p,q,f,b1,b2,b3,b4,rfl,hx,k⟩:=h
  refine⟨_,(ay (aC (aB (af (bJ K rfl (pv 0) rfl) (af (bJ K rfl (pv 0) rfl) (af (bJ K rfl (pv 0) rfl) (af (bJ K rfl (pv 0) rfl) (af (bJ K rfl (pv 0) rfl) (af (bJ K rfl (pv 0) rfl) (af (bJ K rfl (pv 0) rfl) ak)))))))))),?_⟩
  refine⟨_,O,x,(aM 54),dx,_,_,O,hx,T.aT,T.cE,O,_,O,x,(aM 54),dx,_,_,O,hx,T.aT,T.cS,O,_,O,x,(aM 54),dx,_,_,O,hx,T.aT,T.cF,O,_,O,x,(aM 54),dx,_,_,O,hx,T.aT,T.fG,O,_,O,x,(aM 54),dx,_,_,O,hx,T.aT,T.dZ,O,_,O,x,(aM 54),dx,_,_,O,hx,T.aT,T.d7,O,_,O,x,(aM 54),dx,_,_,O,hx,T.aT,T.eN,O,(by show 7<=sizeLine;decide),λt ht=>?_⟩
  exact k t ht
inductive pU(C:Addr)(vs:List V)(H:Hp)(Q:VK)(E_:XK):Prop where
 |mk (t:Addr) (p q f:Str) (b1 b2 b3 b4:Bool):(vs=[.ref t])->(H t=some (.tup (pI p q f b1 b2 b3 b4)))->(Gd p q f)->(∀(x dx:Addr)(H':Hp),H x=none->H' x=some (.ins C dx (Gn p q f b1 b2 b3 b4))->aG H H'->Q (.ref x) H')->pU C vs H Q E_
theorem pV:zzz T eH 5 7 ["told"] (pU (aM 54)):=by
 have qH:=pC T
 refine T.mD.ok zu 'g' 'a'
 ·obtain⟨t,p,q,f,b1,b2,b3,b4,rfl,_⟩:=h;rfl
 ·have hu:=bx hr
  obtain⟨t,p,q,f,b1,b2,b3,b4,rfl,ht,g,k⟩:=h
  have hS:bD K H t (pI p q f b1 b2 b3 b4):=bD.of ht
  refine⟨_,(aq (aO (PW.pt (ia (dm (bT (gv (CZ K rfl) T.bH (af (pv 0) (af (I0 "tuple" T.n8) ak))))) (gG (cC pH (gv (aK K rfl) T.bB (af (pv 0) ak)) au)))) (ay nq) aD)
   (ay (aC (FW (k:=3) T.Ij qH (hr.mono 'c') rfl T.Ii T.qD .nil CQ (af (jK K (pv 0) au) (af (jK K (pv 0) au) (af (jK K (pv 0) au) (af (jK K (pv 0) au) (af (jK K (pv 0) au) (af (jK K (pv 0) au) (af (jK K (pv 0) au) ak))))))))))),?_⟩
  refine⟨_,O,t,_,_,true,O,.inl ⟨hS,O⟩,true,O,bE ?_⟩
  refine⟨_,O,t,_,O,.inr hS,O,_,O,RN rfl ?_⟩
  refine⟨_,O,t,_,_,_,O,O,hS,O,_,O,t,_,_,_,O,O,hS,O,_,O,t,_,_,_,O,O,hS,O,_,O,t,_,_,_,O,O,hS,O,_,O,t,_,_,_,O,O,hS,O,_,O,t,_,_,_,O,O,hS,O,_,O,t,_,_,_,O,O,hS,O,λx dx hx hdx ne=>?_⟩
  refine⟨x,dx,p,q,f,b1,b2,b3,b4,O,ai,g,λH2 h2 kp=>⟨O,k x dx H2 hx h2 λb o e=>kp b o ?_ (bO e hx)⟩⟩
  rw[aH (bO e hx),aH (bO e hdx)]
  exact e
inductive iJ(K:W.Frag)(C:Addr)(vs:List V)(H:Hp)(Q:VK)(E_:XK):Prop where
 |mk (x dx:Addr) (p q f:Str) (b1 b2 b3 b4:Bool) (s:Addr) (w u:Str) (c:Nat):(vs=[.ref x,.ref s,.str (sg c)])->(H x=some (.ins C dx (Gn p q f b1 b2 b3 b4)))->(bD K H s [.str w,.str u])->(∀v H',aG H H'->wz K H' v (fF p q f b3 w u c)->Q v H')->iJ K C vs H Q E_
theorem oj:zzz T eH 1 8 ["dialect","state","sign"] (iJ K (aM 54)):=by
 refine T.iX.ok nN 'g' 'a'
 ·obtain⟨x,dx,p,q,f,b1,b2,b3,b4,s,w,u,c,rfl,_⟩:=h;rfl
 ·have hu:=bx hr
  obtain⟨x,dx,p,q,f,b1,b2,b3,b4,s,w,u,c,rfl,hx,hs,k⟩:=h
  refine'⟨_,?aa,?bb⟩
  case aa =>
   refine' aq ?s0 ?r0
   case s0 =>
    refine' aO ?c1 ?b1 ?e1
    case c1=>exact(dP cB (pv 2) (bJ K rfl (pv 0) rfl) rfl)
    case b1 =>
     refine' ay ?s2
     case s2 =>
      refine' aC ?v3
      case v3 =>
       refine' aB ?a4
       case a4 =>
        refine' af ?x5 ?y5 ?z5
        case z5=>exact rfl
        case x5 =>
         exact az
        case y5 =>
         refine' af ?x6 ?y6 ?z6
         case z6=>exact rfl
         case x6 =>
          refine' aB ?a7
          case a7 =>
           refine' af ?x8 ?y8 ?z8
           case z8=>exact rfl
           case x8 =>
            exact az
           case y8 =>
            refine' af ?x9 ?y9 ?z9
            case z9=>exact rfl
            case x9 =>
             exact az
            case y9 =>
             exact ak
         case y6 =>
          exact ak
    case e1 =>
     exact aD
   case r0 =>
    refine' aq ?JK ?Py
    case JK =>
     refine' aO ?Pz ?MQ ?PB
     case Pz=>exact(cC aU (pv 2) (oN rfl T.oX.choose_spec))
     case MQ =>
      refine' ay ?s12
      case s12 =>
       refine' aC ?Sl
       case Sl =>
        refine' aB ?MR
        case MR =>
         refine' af ?K0 ?K1 ?K2
         case K2=>exact rfl
         case K0 =>
          exact az
         case K1 =>
          refine' af ?Il ?Im ?Io
          case Io=>exact rfl
          case Il =>
           exact(qU rfl T.oh)
          case Im =>
           exact ak
     case PB =>
      exact aD
    case Py =>
     refine' aq ?MS ?MT
     case MS =>
      refine' aO ?PC ?MU ?PD
      case PC=>exact(dP cB (pv 2) (bJ K rfl (pv 0) rfl) rfl)
      case MU =>
       refine' ay ?PF
       case PF =>
        refine' aC ?v20
        case v20 =>
         refine' aB ?MV
         case MV =>
          refine' af ?K3 ?K4 ?K5
          case K5=>exact rfl
          case K3 =>
           exact az
          case K4 =>
           refine' af ?Ip ?Iq ?Ir
           case Ir=>exact rfl
           case Ip =>
            refine' aB ?MW
            case MW =>
             refine' af ?PJ ?PK ?PL
             case PL=>exact rfl
             case PJ =>
              exact az
             case PK =>
              refine' af ?K6 ?K7 ?K8
              case K8=>exact rfl
              case K6 =>
               exact(pv 2)
              case K7 =>
               exact ak
           case Iq =>
            exact ak
      case PD =>
       exact aD
     case MT =>
      refine' aq ?Sm ?W3
      case Sm =>
       refine' aO ?W4 ?Sn ?W5
       case W4=>exact(dP cB (pv 2) (bJ K rfl (pv 0) rfl) rfl)
       case Sn =>
        refine' ay ?W6
        case W6 =>
         refine' aC ?v30
         case v30 =>
          refine' aB ?So
          case So =>
           refine' af ?PM ?PN ?PR
           case PR=>exact rfl
           case PM =>
            exact az
           case PN =>
            refine' af ?Sq ?Ss ?Su
            case Su=>exact rfl
            case Sq =>
             refine' aB ?Sv
             case Sv =>
              refine' af ?Sw ?Sx ?Sy
              case Sy=>exact rfl
              case Sw =>
               exact az
              case Sx =>
               refine' af ?MX ?MY ?MZ
               case MZ=>exact rfl
               case MX =>
                exact az
               case MY =>
                exact ak
            case Ss =>
             exact ak
       case W5 =>
        exact aD
      case W3 =>
       refine' aq ?s37 ?r37
       case s37 =>
        refine' aO ?c38 ?W7 ?e38
        case c38=>exact(PW.pt (cI (cC aU (pv 2) az) (cj (bT (bJ K rfl (pv 0) rfl)))))
        case W7 =>
         refine' ay ?W8
         case W8 =>
          refine' aC ?W9
          case W9 =>
           refine' aB ?Sz
           case Sz =>
            refine' af ?SA ?SD ?SE
            case SE=>exact rfl
            case SA =>
             exact az
            case SD =>
             refine' af ?SG ?SH ?SI
             case SI=>exact rfl
             case SG =>
              exact(pv 1)
             case SH =>
              exact ak
        case e38 =>
         exact aD
       case r37 =>
        refine' ay ?s44
        case s44 =>
         refine' aC ?v45
         case v45 =>
          refine' aB ?Xa
          case Xa =>
           refine' af ?PU ?PV ?PX
           case PX=>exact rfl
           case PU =>
            exact az
           case PV =>
            refine' af ?Xb ?Xc ?Xd
            case Xd=>exact rfl
            case Xb =>
             refine' aB ?SJ
             case SJ =>
              refine' af ?SK ?SM ?SN
              case SN=>exact rfl
              case SK =>
               exact az
              case SM =>
               refine' af ?Xe ?Xf ?Xg
               case Xg=>exact rfl
               case Xe =>
                exact az
               case Xf =>
                exact ak
            case Xc =>
             exact ak
  have e2:bA (sg c) (dO 0)=bA (sg c) (Str.ofString "\n"):=by rw[T.mH]
  refine⟨_,O,_,O,x,(aM 54),dx,_,_,O,hx,T.aT,T.cF,O,_,_,O,O,_,O,bf (λ(h1:jL c f=true)=>?_) (λ(h1:¬jL c f=true)=>?_)⟩
  ·exact bU (by unfold fF;rw[abj h1]) dF k
  refine⟨_,O,O,_,O,bf (λ(h2:bA (sg c) (dO 0)=true)=>?_) (λ(h2:¬bA (sg c) (dO 0)=true)=>?_)⟩
  ·rw[e2]at h2
   exact ig (by unfold fF;rw[abb h1,abj h2]) qy (aG.refl _) (.inr T.oi) k
  rw[e2]at h2
  refine⟨_,O,_,O,x,(aM 54),dx,_,_,O,hx,T.aT,T.cS,O,_,_,O,O,_,O,bf (λ(h3:jL c q=true)=>?_) (λ(h3:¬jL c q=true)=>?_)⟩
  ·exact⟨_,O,bU (by unfold fF;rw[abb h1,abb h2,abj h3]) dF k⟩
  refine⟨_,O,_,O,x,(aM 54),dx,_,_,O,hx,T.aT,T.cE,O,_,_,O,O,_,O,bf (λ(h4:jL c p=true)=>?_) (λ(h4:¬jL c p=true)=>?_)⟩
  ·exact bU (by unfold fF;rw[abb h1,abb h2,abb h3,abj h4]) lX k
  refine⟨_,O,O,_,O,bf (λ(h5:bA (sg c) (" ":Str)=true)=>?_) (λ(h5:¬bA (sg c) (" ":Str)=true)=>?_)⟩
  ·refine⟨_,O,x,(aM 54),dx,_,_,O,hx,T.aT,T.d7,O,_,O,bf (λ(h6:b3=true)=>?_) (λ(h6:¬b3=true)=>?_)⟩
   ·exact⟨_,O,ig (by unfold fF;rw[abb h1,abb h2,abb h3,abb h4,abj h5,abj h6]) dF (aG.refl _) hs k⟩
   exact bU (by unfold fF;rw[abb h1,abb h2,abb h3,abb h4,abj h5,abb h6]) dz k
  refine bE ?_
  exact bU (by unfold fF;rw[abb h1,abb h2,abb h3,abb h4,abb h5]) dz k
inductive lu(K:W.Frag)(C:Addr)(vs:List V)(H:Hp)(Q:VK)(E_:XK):Prop where
 |mk (x dx:Addr) (p q f:Str) (b1 b2 b3 b4:Bool) (c:Nat):(vs=[.ref x,.str (sg c)])->(H x=some (.ins C dx (Gn p q f b1 b2 b3 b4)))->(∀v H',aG H H'->wz K H' v (fW p q f b4 c)->Q v H')->lu K C vs H Q E_
theorem uN:zzz T eH 1 9 ["dialect","sign"] (lu K (aM 54)):=by
 refine T.mX.ok uw 'g' 'a'
 ·obtain⟨x,dx,p,q,f,b1,b2,b3,b4,c,rfl,_⟩:=h;rfl
 ·have hu:=bx hr
  obtain⟨x,dx,p,q,f,b1,b2,b3,b4,c,rfl,hx,k⟩:=h
  refine'⟨_,?aa,?bb⟩
  case aa =>
   refine' aq ?s0 ?r0
   case s0 =>
    refine' aO ?c1 ?b1 ?e1
    case c1=>exact(dP cB (pv 1) (bJ K rfl (pv 0) rfl) rfl)
    case b1 =>
     refine' ay ?s2
     case s2 =>
      refine' aC ?v3
      case v3 =>
       refine' aB ?a4
       case a4 =>
        refine' af ?x5 ?y5 ?z5
        case z5=>exact rfl
        case x5 =>
         exact az
        case y5 =>
         refine' af ?x6 ?y6 ?z6
         case z6=>exact rfl
         case x6 =>
          refine' aB ?a7
          case a7 =>
           refine' af ?x8 ?y8 ?z8
           case z8=>exact rfl
           case x8 =>
            exact az
           case y8 =>
            refine' af ?x9 ?y9 ?z9
            case z9=>exact rfl
            case x9 =>
             exact az
            case y9 =>
             exact ak
         case y6 =>
          exact ak
    case e1 =>
     exact aD
   case r0 =>
    refine' aq ?JK ?Py
    case JK =>
     refine' aO ?Pz ?MQ ?PB
     case Pz=>exact(cC aU (pv 1) (oN rfl T.oX.choose_spec))
     case MQ =>
      refine' ay ?s12
      case s12 =>
       refine' aC ?Sl
       case Sl =>
        refine' aB ?MR
        case MR =>
         refine' af ?K0 ?K1 ?K2
         case K2=>exact rfl
         case K0 =>
          exact az
         case K1 =>
          refine' af ?Il ?Im ?Io
          case Io=>exact rfl
          case Il =>
           exact(qU rfl T.oh)
          case Im =>
           exact ak
     case PB =>
      exact aD
    case Py =>
     refine' aq ?MS ?MT
     case MS =>
      refine' aO ?PC ?MU ?PD
      case PC=>exact(dP cB (pv 1) (bJ K rfl (pv 0) rfl) rfl)
      case MU =>
       refine' ay ?PF
       case PF =>
        refine' aC ?v20
        case v20 =>
         refine' aB ?MV
         case MV =>
          refine' af ?K3 ?K4 ?K5
          case K5=>exact rfl
          case K3 =>
           exact az
          case K4 =>
           refine' af ?Ip ?Iq ?Ir
           case Ir=>exact rfl
           case Ip =>
            refine' aB ?MW
            case MW =>
             refine' af ?PJ ?PK ?PL
             case PL=>exact rfl
             case PJ =>
              exact az
             case PK =>
              refine' af ?K6 ?K7 ?K8
              case K8=>exact rfl
              case K6 =>
               exact az
              case K7 =>
               exact ak
           case Iq =>
            exact ak
      case PD =>
       exact aD
     case MT =>
      refine' aq ?Sm ?W3
      case Sm =>
       refine' aO ?W4 ?Sn ?W5
       case W4=>exact(PW.pt (cI (dP cB (pv 1) (bJ K rfl (pv 0) rfl) rfl) (cj (dm (bT (bJ K rfl (pv 0) rfl))))))
       case Sn =>
        refine' ay ?W6
        case W6 =>
         refine' aC ?v30
         case v30 =>
          refine' aB ?So
          case So =>
           refine' af ?PM ?PN ?PR
           case PR=>exact rfl
           case PM =>
            exact az
           case PN =>
            refine' af ?Sq ?Ss ?Su
            case Su=>exact rfl
            case Sq =>
             exact az
            case Ss =>
             exact ak
       case W5 =>
        exact aD
      case W3 =>
       refine' ay ?s34
       case s34 =>
        refine' aC ?v35
        case v35 =>
         refine' aB ?Xh
         case Xh =>
          refine' af ?PY ?PZ ?P0
          case P0=>exact rfl
          case PY =>
           exact az
          case PZ =>
           refine' af ?SO ?SQ ?SR
           case SR=>exact rfl
           case SO =>
            refine' aB ?SS
            case SS =>
             refine' af ?SV ?SW ?SX
             case SX=>exact rfl
             case SV =>
              exact az
             case SW =>
              refine' af ?SY ?S0 ?S3
              case S3=>exact rfl
              case SY =>
               exact az
              case S0 =>
               exact ak
           case SQ =>
            exact ak
  have e2:bA (sg c) (dO 0)=bA (sg c) (Str.ofString "\n"):=by rw[T.mH]
  refine⟨_,O,_,O,x,(aM 54),dx,_,_,O,hx,T.aT,T.cF,O,_,_,O,O,_,O,bf (λ(h1:jL c f=true)=>?_) (λ(h1:¬jL c f=true)=>?_)⟩
  ·exact bU (by unfold fW;rw[abj h1]) dF k
  refine⟨_,O,O,_,O,bf (λ(h2:bA (sg c) (dO 0)=true)=>?_) (λ(h2:¬bA (sg c) (dO 0)=true)=>?_)⟩
  ·rw[e2]at h2
   exact ig (by unfold fW;rw[abb h1,abj h2]) qy (aG.refl _) (.inr T.oi) k
  rw[e2]at h2
  refine⟨_,O,_,O,x,(aM 54),dx,_,_,O,hx,T.aT,T.cE,O,_,_,O,O,_,O,bf (λ(h3:jL c p=true)=>?_) (λ(h3:¬jL c p=true)=>?_)⟩
  ·exact bU (by unfold fW;rw[abb h1,abb h2,abj h3]) lX k
  refine⟨_,O,_,O,x,(aM 54),dx,_,_,O,hx,T.aT,T.cS,O,_,_,O,O,_,O,bf (λ(h4:jL c q=true)=>?_) (λ(h4:¬jL c q=true)=>?_)⟩
  ·refine⟨_,O,x,(aM 54),dx,_,_,O,hx,T.aT,T.eN,O,_,O,bf (λ(h5:(!b4)=true)=>?_) (λ(h5:¬(!b4)=true)=>?_)⟩
   ·exact iO (by unfold fW;rw[abb h1,abb h2,abb h3,abj h4,abj h5]) k
   exact bU (by unfold fW;rw[abb h1,abb h2,abb h3,abj h4,abb h5]) dz k
  refine bE ?_
  exact bU (by unfold fW;rw[abb h1,abb h2,abb h3,abb h4]) dz k
inductive om(K:W.Frag)(C:Addr)(vs:List V)(H:Hp)(Q:VK)(E_:XK):Prop where
 |mk (x dx:Addr) (p q f:Str) (b1 b2 b3 b4:Bool) (u:Str) (c:Nat):(vs=[.ref x,.str u,.str (sg c)])->(H x=some (.ins C dx (Gn p q f b1 b2 b3 b4)))->(∀v H',aG H H'->wz K H' v (dS f b1 b2 u c)->Q v H')->om K C vs H Q E_
theorem yF:zzz T eH 1 10 ["dialect","quote","sign"] (om K (aM 54)):=by
 refine T.pL.ok yk 'g' 'a'
 ·obtain⟨x,dx,p,q,f,b1,b2,b3,b4,u,c,rfl,_⟩:=h;rfl
 ·have hu:=bx hr
  obtain⟨x,dx,p,q,f,b1,b2,b3,b4,u,c,rfl,hx,k⟩:=h
  refine'⟨_,?aa,?bb⟩
  case aa =>
   refine' aq ?s0 ?r0
   case s0 =>
    refine' aO ?c1 ?b1 ?e1
    case c1=>exact(dP cB (pv 2) (bJ K rfl (pv 0) rfl) rfl)
    case b1 =>
     refine' ay ?s2
     case s2 =>
      refine' aC ?v3
      case v3 =>
       refine' aB ?a4
       case a4 =>
        refine' af ?x5 ?y5 ?z5
        case z5=>exact rfl
        case x5 =>
         exact az
        case y5 =>
         refine' af ?x6 ?y6 ?z6
         case z6=>exact rfl
         case x6 =>
          refine' aB ?a7
          case a7 =>
           refine' af ?x8 ?y8 ?z8
           case z8=>exact rfl
           case x8 =>
            exact az
           case y8 =>
            refine' af ?x9 ?y9 ?z9
            case z9=>exact rfl
            case x9 =>
             exact(pv 1)
            case y9 =>
             exact ak
         case y6 =>
          exact ak
    case e1 =>
     exact aD
   case r0 =>
    refine' aq ?JK ?Py
    case JK =>
     refine' aO ?Pz ?MQ ?PB
     case Pz=>exact(cC aU (pv 2) (pv 1))
     case MQ =>
      refine' ay ?s12
      case s12 =>
       refine' aC ?Sl
       case Sl =>
        refine' aB ?MR
        case MR =>
         refine' af ?K0 ?K1 ?K2
         case K2=>exact rfl
         case K0 =>
          exact az
         case K1 =>
          refine' af ?Il ?Im ?Io
          case Io=>exact rfl
          case Il =>
           exact(xM (bT (bJ K rfl (pv 0) rfl)) (aB (af az (af (pv 1) ak))) (aB (af az (af az ak))))
          case Im =>
           exact ak
     case PB =>
      exact aD
    case Py =>
     refine' aq ?MS ?MT
     case MS =>
      refine' aO ?PC ?MU ?PD
      case PC=>exact(PW.pt (cI (cC aU (pv 2) (oN rfl T.oX.choose_spec)) (cj (dm (bT (bJ K rfl (pv 0) rfl))))))
      case MU =>
       refine' ay ?PF
       case PF =>
        refine' aC ?v20
        case v20 =>
         refine' aB ?MV
         case MV =>
          refine' af ?K3 ?K4 ?K5
          case K5=>exact rfl
          case K3 =>
           exact az
          case K4 =>
           refine' af ?Ip ?Iq ?Ir
           case Ir=>exact rfl
           case Ip =>
            exact az
           case Iq =>
            exact ak
      case PD =>
       exact aD
     case MT =>
      refine' ay ?Xi
      case Xi =>
       refine' aC ?v25
       case v25 =>
        refine' aB ?Xj
        case Xj =>
         refine' af ?P4 ?P5 ?P6
         case P6=>exact rfl
         case P4 =>
          exact az
         case P5 =>
          refine' af ?Xk ?Xl ?Xm
          case Xm=>exact rfl
          case Xk =>
           refine' aB ?P7
           case P7 =>
            refine' af ?K9 ?M0 ?M1
            case M1=>exact rfl
            case K9 =>
             exact az
            case M0 =>
             refine' af ?N9 ?P8 ?P9
             case P9=>exact rfl
             case N9 =>
              exact(pv 1)
             case P8 =>
              exact ak
          case Xl =>
           exact ak
  have e2:bA (sg c) (dO 0)=bA (sg c) (Str.ofString "\n"):=by rw[T.mH]
  refine⟨_,O,_,O,x,(aM 54),dx,_,_,O,hx,T.aT,T.cF,O,_,_,O,O,_,O,bf (λ(h1:jL c f=true)=>?_) (λ(h1:¬jL c f=true)=>?_)⟩
  ·exact⟨_,O,bU (by unfold dS;rw[abj h1]) dF k⟩
  refine⟨_,O,_,O,O,_,O,bf (λ(h2:bA (sg c) u=true)=>?_) (λ(h2:¬bA (sg c) u=true)=>?_)⟩
  ·refine⟨_,O,x,(aM 54),dx,_,_,O,hx,T.aT,T.fG,O,_,O,bf (λ(h3:b1=true)=>?_) (λ(h3:¬b1=true)=>?_)⟩
   ·exact⟨_,O,bU (by unfold dS;rw[abb h1,abj h2,abj h3]) dF k⟩
   exact bU (by unfold dS;rw[abb h1,abj h2,abb h3]) dF k
  refine⟨_,O,O,_,O,bf (λ(h3:bA (sg c) (dO 0)=true)=>?_) (λ(h3:¬bA (sg c) (dO 0)=true)=>?_)⟩
  ·rw[e2]at h3
   refine⟨_,O,x,(aM 54),dx,_,_,O,hx,T.aT,T.dZ,O,_,O,bf (λ(h4:(!b2)=true)=>?_) (λ(h4:¬(!b2)=true)=>?_)⟩
   ·exact iO (by unfold dS;rw[abb h1,abb h2,abj h3,abj h4]) k
   exact⟨_,O,bU (by unfold dS;rw[abb h1,abb h2,abj h3,abb h4]) dz k⟩
  rw[e2]at h3
  refine bE ?_
  exact⟨_,O,bU (by unfold dS;rw[abb h1,abb h2,abb h3]) dz k⟩
inductive oq(K:W.Frag)(C:Addr)(vs:List V)(H:Hp)(Q:VK)(E_:XK):Prop where
 |mk (x dx:Addr) (p q f:Str) (b1 b2 b3 b4:Bool) (c:Nat):(vs=[.ref x,.str (sg c)])->(H x=some (.ins C dx (Gn p q f b1 b2 b3 b4)))->(∀v H',aG H H'->wz K H' v (cz p b3 c)->Q v H')->oq K C vs H Q E_
theorem ou:zzz T eH 1 11 ["dialect","sign"] (oq K (aM 54)):=by
 refine T.kO.ok yl 'g' 'a'
 ·obtain⟨x,dx,p,q,f,b1,b2,b3,b4,c,rfl,_⟩:=h;rfl
 ·have hu:=bx hr
  obtain⟨x,dx,p,q,f,b1,b2,b3,b4,c,rfl,hx,k⟩:=h
  refine'⟨_,?aa,?bb⟩
  case aa =>
   refine' aq ?s0 ?r0
   case s0 =>
    refine' aO ?c1 ?b1 ?e1
    case c1=>exact(cC aU (pv 1) (oN rfl T.oX.choose_spec))
    case b1 =>
     refine' ay ?s2
     case s2 =>
      refine' aC ?v3
      case v3 =>
       refine' aB ?a4
       case a4 =>
        refine' af ?x5 ?y5 ?z5
        case z5=>exact rfl
        case x5 =>
         exact az
        case y5 =>
         refine' af ?x6 ?y6 ?z6
         case z6=>exact rfl
         case x6 =>
          exact(qU rfl T.oh)
         case y6 =>
          exact ak
    case e1 =>
     exact aD
   case r0 =>
    refine' aq ?s7 ?r7
    case s7 =>
     refine' aO ?c8 ?b8 ?e8
     case c8=>exact(dP cB (pv 1) (bJ K rfl (pv 0) rfl) rfl)
     case b8 =>
      refine' ay ?s9
      case s9 =>
       refine' aC ?v10
       case v10 =>
        refine' aB ?S4
        case S4 =>
         refine' af ?M3 ?M4 ?M5
         case M5=>exact rfl
         case M3 =>
          exact az
         case M4 =>
          refine' af ?S5 ?S6 ?S7
          case S7=>exact rfl
          case S5 =>
           refine' aB ?MR
           case MR =>
            refine' af ?K0 ?K1 ?K2
            case K2=>exact rfl
            case K0 =>
             exact az
            case K1 =>
             refine' af ?Il ?Im ?Io
             case Io=>exact rfl
             case Il =>
              exact az
             case Im =>
              exact ak
          case S6 =>
           exact ak
     case e8 =>
      exact aD
    case r7 =>
     refine' aq ?MS ?MT
     case MS =>
      refine' aO ?PC ?MU ?PD
      case PC=>exact(PW.pt (cI (cC aU (pv 1) az) (cj (bT (bJ K rfl (pv 0) rfl)))))
      case MU =>
       refine' ay ?PF
       case PF =>
        refine' aC ?v20
        case v20 =>
         refine' aB ?MV
         case MV =>
          refine' af ?K3 ?K4 ?K5
          case K5=>exact rfl
          case K3 =>
           exact az
          case K4 =>
           refine' af ?Ip ?Iq ?Ir
           case Ir=>exact rfl
           case Ip =>
            refine' aB ?MW
            case MW =>
             refine' af ?PJ ?PK ?PL
             case PL=>exact rfl
             case PJ =>
              exact az
             case PK =>
              refine' af ?K6 ?K7 ?K8
              case K8=>exact rfl
              case K6 =>
               exact az
              case K7 =>
               exact ak
           case Iq =>
            exact ak
      case PD =>
       exact aD
     case MT =>
      refine' ay ?Sm
      case Sm =>
       refine' aC ?v28
       case v28 =>
        refine' aB ?P7
        case P7 =>
         refine' af ?K9 ?M0 ?M1
         case M1=>exact rfl
         case K9 =>
          exact az
         case M0 =>
          refine' af ?N9 ?P8 ?P9
          case P9=>exact rfl
          case N9 =>
           exact az
          case P8 =>
           exact ak
  have e2:bA (sg c) (dO 0)=bA (sg c) (Str.ofString "\n"):=by rw[T.mH]
  refine⟨_,O,O,_,O,bf (λ(h1:bA (sg c) (dO 0)=true)=>?_) (λ(h1:¬bA (sg c) (dO 0)=true)=>?_)⟩
  ·rw[e2]at h1
   exact ig (by unfold cz;rw[abj h1]) qy (aG.refl _) (.inr T.oi) k
  rw[e2]at h1
  refine⟨_,O,_,O,x,(aM 54),dx,_,_,O,hx,T.aT,T.cE,O,_,_,O,O,_,O,bf (λ(h2:jL c p=true)=>?_) (λ(h2:¬jL c p=true)=>?_)⟩
  ·exact bU (by unfold cz;rw[abb h1,abj h2]) lX k
  refine⟨_,O,O,_,O,bf (λ(h3:bA (sg c) (" ":Str)=true)=>?_) (λ(h3:¬bA (sg c) (" ":Str)=true)=>?_)⟩
  ·refine⟨_,O,x,(aM 54),dx,_,_,O,hx,T.aT,T.d7,O,_,O,bf (λ(h4:b3=true)=>?_) (λ(h4:¬b3=true)=>?_)⟩
   ·exact bU (by unfold cz;rw[abb h1,abb h2,abj h3,abj h4]) dF k
   exact iO (by unfold cz;rw[abb h1,abb h2,abj h3,abb h4]) k
  refine bE ?_
  exact iO (by unfold cz;rw[abb h1,abb h2,abb h3]) k
inductive ly(K:W.Frag)(C:Addr)(vs:List V)(H:Hp)(Q:VK)(E_:XK):Prop where
 |mk (x dx:Addr) (p q f:Str) (b1 b2 b3 b4:Bool) (u:Str) (c:Nat):(vs=[.ref x,.str u,.str (sg c)])->(H x=some (.ins C dx (Gn p q f b1 b2 b3 b4)))->(∀v H',aG H H'->wz K H' v (iP p b3 u c)->Q v H')->ly K C vs H Q E_
theorem uO:zzz T eH 2 12 ["dialect","quote","sign"] (ly K (aM 54)):=by
 have kQ:=ou T
 refine T.mY.ok ux 'g' 'a'
 ·obtain⟨x,dx,p,q,f,b1,b2,b3,b4,u,c,rfl,_⟩:=h;rfl
 ·have hu:=bx hr
  obtain⟨x,dx,p,q,f,b1,b2,b3,b4,u,c,rfl,hx,k⟩:=h
  refine⟨_,(aq (aO (cC aU (pv 2) (pv 1)) (ay (aC (aB (af az (af (aB (af az (af (pv 1) ak))) ak))))) aD)
   (ay (aC (dR kQ hr T.pN T.kO.kp T.pM (af (pv 0) (af (pv 2) ak)))))),?_⟩
  refine⟨_,O,_,O,O,_,O,bf (λ(h1:bA (sg c) u=true)=>?_) (λ(h1:¬bA (sg c) u=true)=>?_)⟩
  ·exact⟨_,O,bU (by unfold iP;rw[abj h1]) dz k⟩
  refine⟨_,O,_,O,x,dx,p,q,f,b1,b2,b3,b4,c,O,hx,λv H2 s2 r=>k v H2 s2 ?_⟩
  unfold iP
  rw[abb h1]
  exact r
inductive pW(K:W.Frag)(C:Addr)(vs:List V)(H:Hp)(Q:VK)(E_:XK):Prop where
 |mk (x dx:Addr) (p q f:Str) (b1 b2 b3 b4:Bool) (u:Str) (c:Nat):(vs=[.ref x,.str u,.str (sg c)])->(H x=some (.ins C dx (Gn p q f b1 b2 b3 b4)))->(∀v H',aG H H'->wz K H' v (iQ b2 u c)->Q v H')->pW K C vs H Q E_
theorem zK:zzz T eH 1 13 ["dialect","quote","sign"] (pW K (aM 54)):=by
 refine T.rH.ok zv 'g' 'a'
 ·obtain⟨x,dx,p,q,f,b1,b2,b3,b4,u,c,rfl,_⟩:=h;rfl
 ·have hu:=bx hr
  obtain⟨x,dx,p,q,f,b1,b2,b3,b4,u,c,rfl,hx,k⟩:=h
  refine'⟨_,?aa,?bb⟩
  case aa =>
   refine' aq ?s0 ?r0
   case s0 =>
    refine' aO ?c1 ?b1 ?e1
    case c1=>exact(PW.pt (cI (cC aU (pv 2) (oN rfl T.oX.choose_spec)) (cj (dm (bT (bJ K rfl (pv 0) rfl))))))
    case b1 =>
     refine' ay ?s2
     case s2 =>
      refine' aC ?v3
      case v3 =>
       refine' aB ?a4
       case a4 =>
        refine' af ?x5 ?y5 ?z5
        case z5=>exact rfl
        case x5 =>
         exact az
        case y5 =>
         refine' af ?x6 ?y6 ?z6
         case z6=>exact rfl
         case x6 =>
          exact az
         case y6 =>
          exact ak
    case e1 =>
     exact aD
   case r0 =>
    refine' ay ?s7
    case s7 =>
     refine' aC ?v8
     case v8 =>
      refine' aB ?a9
      case a9 =>
       refine' af ?M6 ?M7 ?M8
       case M8=>exact rfl
       case M6 =>
        exact az
       case M7 =>
        refine' af ?Qa ?Qc ?Qd
        case Qd=>exact rfl
        case Qa =>
         exact(xM (cC aU (pv 1) az) (aB (af az (af az ak))) (aB (af az (af (pv 1) ak))))
        case Qc =>
         exact ak
  have e2:bA (sg c) (dO 0)=bA (sg c) (Str.ofString "\n"):=by rw[T.mH]
  refine⟨_,O,O,_,O,bf (λ(h1:bA (sg c) (dO 0)=true)=>?_) (λ(h1:¬bA (sg c) (dO 0)=true)=>?_)⟩
  ·rw[e2]at h1
   refine⟨_,O,x,(aM 54),dx,_,_,O,hx,T.aT,T.dZ,O,_,O,bf (λ(h2:(!b2)=true)=>?_) (λ(h2:¬(!b2)=true)=>?_)⟩
   ·exact iO (by unfold iQ;rw[abj h1,abj h2]) k
   refine⟨_,O,O,_,O,bf (λ(h9:bA u ("":Str)=true)=>?_) (λ(h9:¬bA u ("":Str)=true)=>?_)⟩
   ·exact bU (by unfold iQ gM;rw[abj h1,abb h2,abj h9]) dz k
   exact⟨_,O,bU (by unfold iQ gM;rw[abj h1,abb h2,abb h9]) dz k⟩
  rw[e2]at h1
  refine bE ?_
  refine⟨_,O,O,_,O,bf (λ(h9:bA u ("":Str)=true)=>?_) (λ(h9:¬bA u ("":Str)=true)=>?_)⟩
  ·exact bU (by unfold iQ gM;rw[abb h1,abj h9]) dz k
  exact⟨_,O,bU (by unfold iQ gM;rw[abb h1,abb h9]) dz k⟩
inductive lA(C CT:Addr)(vs:List V)(H:Hp)(Q:VK)(E_:XK):Prop where
 |mk (y dy x dx:Addr) (p q f:Str) (b1 b2 b3 b4:Bool):(vs=[.ref y,.ref x])->(H y=some (.ins CT dy []))->(H x=some (.ins C dx (Gn p q f b1 b2 b3 b4)))->(Gd p q f)->(∀H',Tn C CT H' y p q f b1 b2 b3 b4->(∀b o,H b=some o->b≠y->H' b=some o)->Q .non H')->lA C CT vs H Q E_
theorem uP:zzz T eH 6 14 ["self","dialect"] (lA (aM 54) (aM 55)):=by
 have yG:=wM T
 have mJ:=pV T
 refine T.wK.ok uy 'g' 'a'
 ·obtain⟨y,dy,x,dx,p,q,f,b1,b2,b3,b4,rfl,_⟩:=h;rfl
 ·have hu:=bx hr
  obtain⟨y,dy,x,dx,p,q,f,b1,b2,b3,b4,rfl,hy,hx,g,k⟩:=h
  refine⟨_,(ay (nB (pv 0) (dR mJ hr T.rG T.mD.kp T.rF (af (Jy (k:=1) (pv 1) T.aT T.yr yG (hr.mono 'c') T.yq .nil CQ) ak)) rfl)),?_⟩
  refine⟨_,O,x,dx,_,O,hx,O,x,dx,p,q,f,b1,b2,b3,b4,O,hx,λt ht=>?_⟩
  have s1:=ah (o:=HO.tup (pI p q f b1 b2 b3 b4)) ht
  refine⟨t,p,q,f,b1,b2,b3,b4,O,ai,g,λd dd H2 hd h2 s2=>?_⟩
  have s12:=s1.trans s2
  have nyd:d≠y:=λe=>by subst e;rw[s1 _ _ hy]at hd;cases hd
  refine⟨_,O,y,(aM 55),dy,_,O,s12 _ _ hy,T.jW,T.bY,(by show 0<1000;decide),?_⟩
  refine k _ ⟨⟨dy,d,dd,ai,(aH nyd).trans h2⟩⟩ λb o e hb=>(aH hb).trans (s12 _ _ e)
inductive sq(K:W.Frag)(C CT:Addr)(vs:List V)(H:Hp)(Q:VK)(E_:XK):Prop where
 |mk (y s:Addr) (w u:Str) (c:Nat) (p q f:Str) (b1 b2 b3 b4:Bool):(vs=[.ref y,.ref s,.str (sg c)])->(Tn C CT H y p q f b1 b2 b3 b4)->(bD K H s [.str w,.str u])->(∀v H',aG H H'->wz K H' v (cU p q f b1 b2 b3 b4 w u c)->Q v H')->sq K C CT vs H Q E_
theorem BQ:zzz T eH 3 15 ["self","state","sign"] (sq K (aM 54) (aM 55)):=by
 have pD:=oj T
 have kQ:=ou T
 have BR:=zK T
 have wN:=uO T
 have wO:=uN T
 have zL:=yF T
 refine T.DA.ok mw 'g' 'a'
 ·obtain⟨y,s,w,u,c,p,q,f,b1,b2,b3,b4,rfl,_⟩:=h;rfl
 ·have hu:=bx hr
  obtain⟨y,s,w,u,c,p,q,f,b1,b2,b3,b4,rfl,hT,hs,k⟩:=h
  obtain⟨dy,d,dd,hy,hd⟩:=hT.ok
  refine⟨_,(aq (dj 3 mw.nd (jK K (pv 1) au))
   (aq (dj 4 mw.nd (jK K (pv 1) au))
   (aq (aO (cC aU (pv 3) az) (ay (aC (dR wO hr T.wH T.mX.kp T.wG (af (bJ K rfl (pv 0) rfl) (af (pv 2) ak))))) aD)
   (aq (aO (cC aU (pv 3) az) (ay (aC (dR zL hr T.zz T.pL.kp T.zy (af (bJ K rfl (pv 0) rfl) (af (pv 4) (af (pv 2) ak)))))) aD)
   (aq (aO (cC aU (pv 3) az) (ay (aC (dR wN hr T.wJ T.mY.kp T.wI (af (bJ K rfl (pv 0) rfl) (af (pv 4) (af (pv 2) ak)))))) aD)
   (aq (aO (cC aU (pv 3) az) (ay (aC (dR kQ hr T.pN T.kO.kp T.pM (af (bJ K rfl (pv 0) rfl) (af (pv 2) ak))))) aD)
   (aq (aO (cC aU (pv 3) az) (ay (aC (dR BR hr T.BB T.rH.kp T.BA (af (bJ K rfl (pv 0) rfl) (af (pv 4) (af (pv 2) ak)))))) aD)
   (ay (aC (dR pD hr T.pA T.iX.kp T.pq (af (bJ K rfl (pv 0) rfl) (af (pv 1) (af (pv 2) ak))))))))))))),?_⟩
  refine⟨_,O,s,_,_,_,O,O,hs,O,_,O,s,_,_,_,O,O,hs,O,?_⟩
  refine⟨_,O,O,_,O,bf (λ(h1:bA w ("plain":Str)=true)=>?_) (λ(h1:¬bA w ("plain":Str)=true)=>?_)⟩
  ·refine⟨_,O,y,(aM 55),dy,_,_,O,hy,T.jW,T.bY,O,_,O,d,dd,p,q,f,b1,b2,b3,b4,c,O,hd,λv H2 s2 r=>k v H2 s2 ?_⟩
   rw[Kr h1]
   exact r
  refine⟨_,O,O,_,O,bf (λ(h2:bA w ("within":Str)=true)=>?_) (λ(h2:¬bA w ("within":Str)=true)=>?_)⟩
  ·refine⟨_,O,y,(aM 55),dy,_,_,O,hy,T.jW,T.bY,O,_,O,_,O,d,dd,p,q,f,b1,b2,b3,b4,u,c,O,hd,λv H2 s2 r=>k v H2 s2 ?_⟩
   rw[iu h2]
   exact r
  refine⟨_,O,O,_,O,bf (λ(h3:bA w ("doubt":Str)=true)=>?_) (λ(h3:¬bA w ("doubt":Str)=true)=>?_)⟩
  ·refine⟨_,O,y,(aM 55),dy,_,_,O,hy,T.jW,T.bY,O,_,O,_,O,d,dd,p,q,f,b1,b2,b3,b4,u,c,O,hd,λv H2 s2 r=>k v H2 s2 ?_⟩
   rw[jw h3]
   exact r
  refine⟨_,O,O,_,O,bf (λ(h4:bA w ("behind":Str)=true)=>?_) (λ(h4:¬bA w ("behind":Str)=true)=>?_)⟩
  ·refine⟨_,O,y,(aM 55),dy,_,_,O,hy,T.jW,T.bY,O,_,O,d,dd,p,q,f,b1,b2,b3,b4,c,O,hd,λv H2 s2 r=>k v H2 s2 ?_⟩
   rw[jf h4]
   exact r
  refine⟨_,O,O,_,O,bf (λ(h5:bA w ("freed":Str)=true)=>?_) (λ(h5:¬bA w ("freed":Str)=true)=>?_)⟩
  ·refine⟨_,O,y,(aM 55),dy,_,_,O,hy,T.jW,T.bY,O,_,O,_,O,d,dd,p,q,f,b1,b2,b3,b4,u,c,O,hd,λv H2 s2 r=>k v H2 s2 ?_⟩
   rw[qZ h5]
   exact r
  refine⟨_,O,y,(aM 55),dy,_,_,O,hy,T.jW,T.bY,O,_,O,_,O,d,dd,p,q,f,b1,b2,b3,b4,s,w,u,c,O,hd,hs,λv H2 s2 r=>k v H2 s2 ?_⟩
  rw[Gq (gu h2) (gu h5) (gu h3) (gu h4)]
  unfold gO
  rw[abb h1]
  exact r
inductive pX(K:W.Frag)(CN:Addr)(vs:List V)(H:Hp)(Q:VK)(E:XK):Prop where
 |mk (v:V):(vs=[v])->(MB H v)->((∀z,v=.str z->z.length<=10000))->((Pc v=true->∀H',aG H H'->Q .non H'))->((Pc v=false->∀H',aG H H'->E (.ref CN) none H'))->pX K CN vs H Q E
theorem zM:zzz T (NV P w) 4 16 ["thing"] (pX K (aM 58)):=by
 have Iu:=E9 T
 refine T.rJ.okE zw 'g' 'a'
 ·obtain⟨v,rfl,_⟩:=h;rfl
 ·have hu:=bx hr
  obtain⟨v,rfl,hk,hb,k,kE⟩:=h
  refine⟨_,(ay (aO (dm (bT (dR Iu hr T.Ih T.AL.kp T.Ig (af (pv 0) ak)))) (ay (J9 rfl T.KZ (.inr ⟨_,_,O,T.yC⟩) rfl T.KY (af az ak))) aD)),?_⟩
  refine⟨_,O,v,O,hk,hb,λH1 s1=>⟨_,O,?_⟩⟩
  by_cases hT:Pc v=true
  ·exact Gm hT (k hT H1 s1)
  ·exact Gp (gu hT) ⟨by decide,kE (gu hT) H1 s1⟩
inductive GR(K:W.Frag)(C:Addr)(vs:List V)(H:Hp)(Q:VK)(E_:XK):Prop where
 |mk (x dx:Addr) (z:Str) (p q f:Str) (b1 b2 b3 b4:Bool):(vs=[.ref x,.str z])->(H x=some (.ins C dx (Gn p q f b1 b2 b3 b4)))->(Gd p q f)->(gh z)->(z.length<=2000)->(∀(tw lk s:Addr) H',H' tw=some (.tup [.ref lk,.ref s,Kv (runM p q f b1 b2 b3 b4 ("row":Str) ("":Str) z.cps.toList).2.2.2])->H lk=none->H' lk=some (.lst ((runM p q f b1 b2 b3 b4 ("row":Str) ("":Str) z.cps.toList).1.map V.str))->bD K H' s [.str (runM p q f b1 b2 b3 b4 ("row":Str) ("":Str) z.cps.toList).2.1,.str (runM p q f b1 b2 b3 b4 ("row":Str) ("":Str) z.cps.toList).2.2.1]->aG H H'->Q (.ref tw) H')->GR K C vs H Q E_
theorem M9:zzz T eH 8 17 ["dialect","text"] (GR K (aM 54)):=by
 have wQ:=uP T
 have DQ:=BQ T
 have BS:=zM T
 refine T.KR.ok mC 'g' 'a'
 ·obtain⟨x,dx,z,p,q,f,b1,b2,b3,b4,rfl,_⟩:=h;rfl
 ·have hu:=bx hr
  obtain⟨x,dx,z,p,q,f,b1,b2,b3,b4,rfl,hx,g,hz,hz2,k⟩:=h
  refine'⟨_,?aa,?bb⟩
  case aa =>
   refine' aq ?s0 ?r0
   case s0 =>
    exact(dg (FU (k:=4) BS (hr.mono 'c') rfl T.BD T.rJ.kp T.BC .nil R8 (af (pv 1) ak)))
   case r0 =>
    refine' aq ?s1 ?r1
    case s1 =>
     exact(dj 2 mC.nd (FW (k:=6) T.Pw wQ (hr.mono 'c') rfl T.Pu T.wL .nil CQ (af (pv 0) ak)))
    case r1 =>
     refine' aq ?s2 ?r2
     case s2 =>
      refine' dj 3 mC.nd ?v3
      case v3 =>
       refine' aW ?a4
       case a4 =>
        exact ak
     case r2 =>
      refine' aq ?s5 ?r5
      case s5 =>
       exact(dj 4 mC.nd (qU rfl T.oh))
      case r5 =>
       refine' aq ?s6 ?r6
       case s6 =>
        exact(gc abZ rfl (Be (pv 1)) (e7 5 mC.nd)
     (aq (dj 6 mC.nd (L1 (k:=3) (pv 2) T.jW T.DC DQ (hr.mono 'c') T.DB .nil CQ (af (pv 4) (af (pv 5) ak))))
     (aq (aO (cC aU (jK K (pv 6) au) az) (ay (aC (aB (af (pv 3) (af (pv 4) (af (jK K (pv 6) au) ak)))))) aD)
     (aq (dg (dw K rfl abE abH abI bI (pv 3) (af (jK K (pv 6) au) ak)))
     (ay (dj 4 mC.nd (jK K (pv 6) au)))))))
       case r6 =>
        refine' ay ?s7
        case s7 =>
         refine' aC ?v8
         case v8 =>
          refine' aB ?a9
          case a9 =>
           refine' af ?M6 ?M7 ?M8
           case M8=>exact rfl
           case M6 =>
            exact(pv 3)
           case M7 =>
            refine' af ?Qa ?Qc ?Qd
            case Qd=>exact rfl
            case Qa =>
             exact(pv 4)
            case Qc =>
             refine' af ?M3 ?M4 ?M5
             case M5=>exact rfl
             case M3 =>
              exact gw
             case M4 =>
              exact ak
  refine⟨_,O,.str z,O,.str z,(λz' e=>by cases e;omega),(λ_ H1 s1=>?_),(λe=>by rw[Pd hz hz2]at e;cases e)⟩
  refine⟨_,O,λy dy hy QX ne=>⟨y,dy,x,dx,p,q,f,b1,b2,b3,b4,O,ai,Ks hy QX (s1 _ _ hx),g,λH2 hT kp=>⟨O,?_⟩⟩⟩
  have s2:=s1.trans (HM hy QX kp)
  refine⟨by decide,λlk hlk=>?_⟩
  have s3:=ah (o:=HO.lst []) hlk
  have GS:H lk=none:=s2.free hlk
  refine⟨_,O,z,O,?_⟩
  refine Ga (λi σ H4=>aG H H4/\∃(w u:Str)(s:Addr)(ks:List Str)(v1 v2:Option V),σ=[some (.ref x),some (.str z),some (.ref y),some (.ref lk),some (.ref s),v1,v2]/\Tn (aM 54) (aM 55) H4 y p q f b1 b2 b3 b4/\H4 lk=some (.lst (ks.map V.str))/\bD K H4 s [.str w,.str u]/\ks.length=i/\runM p q f b1 b2 b3 b4 ("row":Str) ("":Str) z.cps.toList=Dh ks (runM p q f b1 b2 b3 b4 w u (z.cps.toList.drop i))) ⟨s2.trans s3,_,_,(aM 62),[],_,_,rfl,hT.mono s3,ai,.inr T.oi,rfl,rfl⟩ ?_ ?_
  ·rintro i c σ H4 hi ⟨s4,w,u,s,ks,v1,v2,rfl,Vt,h4,hs,N5,er⟩
   rw[drop_cons hi]at er
   have hil:=(abd.mp hi).1
   rw[abA]at hil
   have hil:i<z.length:=hil
   obtain⟨dy4,d4,dd4,ey4,ed4⟩:=Vt.ok
   refine⟨_,O,y,dy4,_,O,ey4,O,_,O,_,O,y,s,w,u,c,p,q,f,b1,b2,b3,b4,O,Vt,hs,λv H5 s5 r=>?_⟩
   have h5:=s5 _ _ h4
   cases Na:cU p q f b1 b2 b3 b4 w u c with
   |go kd w3 u3 =>
    rw[Na]at r
    obtain⟨hk,a,b,rfl,ha,hb⟩:=r
    refine⟨_,O,a,_,_,_,O,O,ha,O,O,_,O,xY hk ?_⟩
    refine⟨_,O,.inl ⟨O,_,aN.of h5⟩,_,O,a,_,_,_,O,O,ha,O,lk,_,_,O,O,h5,?_,?_⟩
    ·rw[aa9];exact abr (show ks.length<=2000 by omega) 'c'
    refine⟨_,O,a,_,_,_,O,O,Bk h5 ha,O,aL GS (s4.trans s5),w3,u3,b,ks++[kd],_,_,O,Tn.but h5 (Vt.mono s5),?_,Bk h5 hb,by rw[abq,N5];rfl,er.trans (Ku Na)⟩
    rw[abw];exact ai
   |tQ e =>
    rw[Na]at r
    obtain⟨a,rfl,ha⟩:=r
    refine⟨_,O,a,_,_,_,O,O,ha,O,O,_,O,xX (cH _) ?_⟩
    refine⟨_,O,_,O,_,O,a,_,_,_,O,O,ha,O,(by show 3<=sizeLine;decide),λt ht=>?_⟩
    have st:=ah (o:=HO.tup [.ref lk,.ref s,.str e]) ht
    rw[Gr Na]at er
    refine k t lk s _ ?_ GS ?_ ?_ ((s4.trans s5).trans st)
    ·rw[er];exact ai
    ·rw[er];exact st _ _ h5
    ·rw[er];exact fE (s5.trans st) hs
  ·rintro σ H4 ⟨s4,w,u,s,ks,v1,v2,rfl,Vt,h4,hs,N5,er⟩
   rw[List.drop_length,Gs]at er
   refine⟨_,O,_,O,(by show 3<=sizeLine;decide),λt ht=>?_⟩
   have st:=ah (o:=HO.tup [.ref lk,.ref s,.non]) ht
   refine k t lk s _ ?_ GS ?_ ?_ (s4.trans st)
   ·rw[er];exact ai
   ·rw[er];exact st _ _ h4
   ·rw[er];exact fE st hs
inductive AM(K:W.Frag)(vs:List V)(H:Hp)(Q:VK)(E_:XK):Prop where
 |mk (tw lk s:Addr) (ks:List Str) (w u:Str) (o:Option Str):(vs=[.ref tw])->(H tw=some (.tup [.ref lk,.ref s,Kv o]))->(H lk=some (.lst (ks.map V.str)))->(bD K H s [.str w,.str u])->((o=none->vD w u=true->Q .non H))->(((o=none->vD w u=false)->∀t,H t=none->Q (.ref t) (upd H t (.tup [.int ks.length,.int (WV ks),.str (o.getD ("cut":Str))]))))->AM K vs H Q E_
theorem Iv:zzz T eH 1 18 ["walked"] (AM K):=by
 refine T.DE.ok uz 'g' 'a'
 ·obtain⟨tw,lk,s,ks,w,u,o,rfl,_⟩:=h;rfl
 ·have hu:=bx hr
  have gg:=hr.aV
  obtain⟨tw,lk,s,ks,w,u,o,rfl,ht,hk,hs,k1,k2⟩:=h
  have hT:bD K H tw [.ref lk,.ref s,Kv o]:=bD.of ht
  refine⟨_,(aq (dj 1 uz.nd (jK K (pv 0) au))
   (aq (dj 2 uz.nd (jK K (pv 0) au))
   (aq (aO (PW.pt (cI (cC Jr (pv 2) gw) (cj (cC (JS K rfl gg) (jK K (pv 0) au) (qU rfl T.oh))))) (ay (aC gw)) aD)
   (ay (aC (aB (af (gv (aK K rfl) T.bB (af (pv 1) ak)) (af (dw K rfl abE PySem.F.slot_list_count PySem.F.type_list_count (Ez K rfl) (pv 1) (af az ak)) (af (xM (cC Jr (pv 2) gw) az (pv 2)) ak))))))))),?_⟩
  refine⟨_,O,tw,_,_,_,O,O,hT,O,_,O,tw,_,_,_,O,O,hT,O,?_⟩
  cases o with
  |none =>
   refine⟨_,O,O,_,O,xX (abo rfl) ?_⟩
   refine⟨_,O,tw,_,_,_,O,O,hT,O,s,(aM 62),_,_,O,O,hs,.inr T.oi,O,O,_,O,bf (λ(h1:vD w u=true)=>?_) (λ(h1:¬vD w u=true)=>?_)⟩
   ·exact k1 rfl h1
   ·refine⟨_,O,lk,_,O,.inl (aN.of hk),_,O,.inl ⟨O,_,aN.of hk⟩,lk,_,_,O,O,aN.of hk,O,uf ks,_,O,O,_,O,xX (abo rfl) ?_⟩
    rw[aa9]
    exact⟨(by show 3<=sizeLine;decide),λt ht=>k2 (λ_=>gu h1) t ht⟩
  |some e =>
   refine⟨_,O,O,_,O,xY (abn (by intro z;cases z)) (bE ?_)⟩
   refine⟨_,O,lk,_,O,.inl (aN.of hk),_,O,.inl ⟨O,_,aN.of hk⟩,lk,_,_,O,O,aN.of hk,O,uf ks,_,O,O,_,O,xY (abn (by intro z;cases z)) ?_⟩
   rw[aa9]
   exact⟨_,O,(by show 3<=sizeLine;decide),λt ht=>k2 (λz=>by cases z) t ht⟩
inductive vQ(K:W.Frag)(vs:List V)(H:Hp)(Q:VK)(E_:XK):Prop where
 |mk (z:Str) (lk:Addr) (ks:List Str):(vs=[.str z,.ref lk])->(H lk=some (.lst (ks.map V.str)))->(z.length<=2000)->(∀(l:Addr)(es:List V)(H':Hp),H l=none->H' l=some (.lst es)->V.ref l∉es->es.Nodup->jP H H' es (EM z ks)->aG H H'->Q (.ref l) H')->vQ K vs H Q E_
theorem DR:zzz T eH 1 19 ["text","kinds"] (vQ K):=by
 refine T.yt.ok cP 'g' 'a'
 ·obtain⟨z,lk,ks,rfl,_⟩:=h;rfl
 ·have hu:=bx hr
  obtain⟨z,lk,ks,rfl,hk,hz,k⟩:=h
  refine⟨_,(aq (dj 2 cP.nd (aW ak))
   (aq (dj 3 cP.nd (aW ak))
   (aq (dj 4 cP.nd az)
   (aq (gc abZ rfl (J3 K rfl rfl T.E8 (af (pv 0) (af (pv 1) ak))) (eZ K rfl 2 rfl (aS (e7 5 cP.nd) (aS (e7 6 cP.nd) eY)))
   (ay (aO (cC aU (pv 6) az) (ay (dj 4 cP.nd (aF fq (pv 4) (pv 5)))) (ay (aO (cC aU (pv 6) az) (aq (dg (dw K rfl abE abH abI bI (pv 3) (af (pv 4) ak)))
   (ay (dj 4 cP.nd az))) (ay (aO (cC aU (pv 6) az) (aq (dg (dw K rfl abE abH abI bI (pv 3) (af (pv 4) ak)))
   (aq (dg (dw K rfl abE abH abI bI (pv 2) (af (pv 3) ak)))
   (aq (dj 3 cP.nd (aW ak))
   (ay (dj 4 cP.nd az))))) aD)))))))
   (ay (aC (pv 2))))))),?_⟩
  refine⟨by decide,λlt hlt=>?_⟩
  have s1:=ah (o:=HO.lst []) hlt
  refine⟨by decide,λr0 hr0=>?_⟩
  have s2:=ah (o:=HO.lst []) hr0
  have a1:(upd (upd H lt (.lst [])) r0 (.lst [])) lt=some (.lst []):=s2 _ _ ai
  have a2:(upd (upd H lt (.lst [])) r0 (.lst [])) r0=some (.lst []):=ai
  have n0:r0≠lt:=λq=>by rw[q,ai]at hr0;cases hr0
  have fr:=s1.free hr0
  have s12:=s1.trans s2
  generalize upd (upd H lt (.lst [])) r0 (.lst [])=H1 at a1 a2 s12⊢
  refine⟨_,O,_,O,z,lk,O,⟨_,aN.of (s12 _ _ hk)⟩,?_⟩
  have hz':z.cps.size<=2000:=hz
  have e0:("":Str).length=0:=by decide +kernel
  refine J4 (K:=K) (z:=z) (b:=lk) (ys:=ks.map V.str) (λi σ H2=>aG H H2/\∃rr es row cell v5 v6,σ=[some (.str z),some (.ref lk),some (.ref lt),some (.ref rr),some (.str cell),v5,v6]/\H rr=none/\H2 lt=some (.lst es)/\H2 rr=some (.lst (row.map V.str))/\rr≠lt/\V.ref lt∉es/\V.ref rr∉es/\es.Nodup/\∃rows,jP H H2 es rows/\wA Kz (z.cps.toList.take i) (ks.take i)=⟨rows,row,cell⟩/\cell.length<=i/\row.length<=i/\es.length<=i) ⟨s12,r0,[],[],_,_,_,rfl,fr,a1,a2,n0,by simp,by simp,List.nodup_nil,[],.nil,rfl,by rw[e0];exact abh _,abh _,abh _⟩ (λi σ H2 _ q=>aN.of (q.1 _ _ hk)) ?_ ?_
  ·rintro i c y t σ H2 hc hy ht ⟨s3,rr,es,row,cell,v5,v6,rfl,Iw,b1,b2,nr,n1,n2,nd,rows,rw',hg,l1,l2,l3⟩
   obtain⟨kd,hkd,rfl⟩:=rj hy
   have hil:=(ab9.mp hc).1
   have hc':z.cps.toList[i]?=some c:=by simpa using hc
   have BU:=ug Kz z.cps.toList ks i c kd hc' hkd
   rw[hg]at BU
   have st:=ah (o:=HO.tup [.str (sg c),.str kd]) ht
   refine⟨t,_,O,bD.of ai,O,_,_,O,_,_,O,O,?_⟩
   have s4:=s3.trans st
   replace b1:=st _ _ b1
   replace b2:=st _ _ b2
   replace rw':=jP.mono st rw'
   generalize upd H2 t (.tup [.str (sg c),.str kd])=H3 at s4 b1 b2 rw'⊢
   clear st ht s3
   unfold Mx at BU
   refine⟨_,O,O,_,O,bf (λh1=>?_) (λh1=>?_)⟩
   ·have h1:bA kd ("put":Str)=true:=h1
    rw[abj h1]at BU
    refine⟨_,O,_,O,_,_,O,O,abv (show cell.length+1<=2001 by omega) 'c',?_⟩
    exact⟨s4,rr,es,row,_,_,_,O,Iw,b1,b2,nr,n1,n2,nd,rows,rw',BU,by rw[lW];show cell.length+1<=_;omega,by omega,by omega⟩
   have h1:¬bA kd ("put":Str)=true:=h1
   rw[abb h1]at BU
   refine⟨_,O,O,_,O,bf (λh2=>?_) (λh2=>?_)⟩
   ·have h2:bA kd ("part":Str)=true:=h2
    rw[abj h2]at BU
    refine⟨_,O,.inl ⟨O,_,aN.of b2⟩,_,O,rr,_,_,O,O,b2,by rw[aa9];exact abr l2 (abD (show i<2001 by omega) 'c'),?_⟩
    refine⟨aL Iw s4,rr,es,row++[cell],_,_,_,O,Iw,(aH (acu nr)).trans b1,by rw[ai,abw];rfl,nr,n1,n2,nd,rows,jP.but n2 rw',BU,by rw[e0];omega,by rw[abq];show row.length+1<=_;omega,by omega⟩
   have h2:¬bA kd ("part":Str)=true:=h2
   rw[abb h2]at BU
   refine⟨_,O,O,_,O,bf (λh3=>?_) (λh3=>?_)⟩
   ·have h3:bA kd ("end":Str)=true:=h3
    rw[abj h3]at BU
    refine⟨_,O,.inl ⟨O,_,aN.of b2⟩,_,O,rr,_,_,O,O,b2,by rw[aa9];exact abr l2 (abD (show i<2001 by omega) 'c'),?_⟩
    have c1:(upd H3 rr (.lst (row.map V.str++[.str cell]))) lt=some (.lst es):=(aH (acu nr)).trans b1
    refine⟨_,O,.inl ⟨O,_,aN.of c1⟩,_,O,lt,es,_,O,O,c1,abr l3 (abD (show i<2001 by omega) 'c'),?_⟩
    have s5:aG H (upd (upd H3 rr (.lst (row.map V.str++[.str cell]))) lt (.lst (es++[.ref rr]))):=aL hlt (aL Iw s4)
    have d1:(upd (upd H3 rr (.lst (row.map V.str++[.str cell]))) lt (.lst (es++[.ref rr]))) lt=some (.lst (es++[.ref rr])):=ai
    have d2:(upd (upd H3 rr (.lst (row.map V.str++[.str cell]))) lt (.lst (es++[.ref rr]))) rr=some (.lst ((row++[cell]).map V.str)):=by rw[aH nr,ai,abw];rfl
    have nl:V.ref lt∉es++[V.ref rr]:=λq=>by
     rcases abG.mp q with q|q
     ·exact n1 q
     ·exact nr (V.ref.inj (abf.mp q)).symm
    have Xn:jP H (upd (upd H3 rr (.lst (row.map V.str++[.str cell]))) lt (.lst (es++[.ref rr]))) (es++[.ref rr]) (rows++[row++[cell]]):=jP.app (jP.but n1 (jP.but n2 rw')) (.cons ⟨rr,rfl,Iw,d2⟩ .nil)
    have nd5:(es++[V.ref rr]).Nodup:=acI.mpr ⟨nd,by simp,λx hx y hy e=>n2 (by rw[abf.mp hy]at e;exact e▸hx)⟩
    generalize upd (upd H3 rr (.lst (row.map V.str++[.str cell]))) lt (.lst (es++[.ref rr]))=H5 at s5 d1 d2 Xn⊢
    refine⟨by decide,λr2 hr2=>?_⟩
    have sn:=ah (o:=HO.lst []) hr2
    have nr2:r2≠lt:=λq=>by rw[q,d1]at hr2;cases hr2
    refine⟨s5.trans sn,r2,es++[.ref rr],[],_,_,_,O,s5.free hr2,sn _ _ d1,ai,nr2,nl,λq=>?_,nd5,_,jP.mono sn Xn,BU,by rw[e0];omega,abW _,by rw[abq];show es.length+1<=_;omega⟩
    obtain⟨_,ys,hys⟩:=Xn.has q
    rw[hys]at hr2;cases hr2
   have h3:¬bA kd ("end":Str)=true:=h3
   rw[abb h3]at BU
   exact⟨s4,rr,es,row,cell,_,_,O,Iw,b1,b2,nr,n1,n2,nd,rows,rw',BU,by omega,by omega,by omega⟩
  ·rintro σ H2 ⟨s3,rr,es,row,cell,v5,v6,rfl,Iw,b1,b2,nr,n1,n2,nd,rows,rw',hg,l1,l2,l3⟩
   refine⟨_,O,k lt es H2 hlt b1 n1 nd ?_ s3⟩
   have e:min z.cps.size (ks.map V.str).length=min z.cps.toList.length ks.length:=by
    have ez:z.cps.toList.length=z.cps.size:=abA
    rw[aa9,ez]
   rw[e,yb]at hg
   have:EM z ks=rows:=by unfold EM;rw[hg]
   rw[this]
   exact rw'
inductive pY(K:W.Frag)(C:Addr)(vs:List V)(H:Hp)(Q:VK)(E_:XK):Prop where
 |mk (x dx:Addr) (z:Str) (p q f:Str) (b1 b2 b3 b4:Bool):(vs=[.ref x,.str z])->(H x=some (.ins C dx (Gn p q f b1 b2 b3 b4)))->(Gd p q f)->(gh z)->(z.length<=2000)->(∀v H',o8 H H' v (CD (Sf p q f b1 b2 b3 b4 z) z)->aG H H'->Q v H')->pY K C vs H Q E_
theorem zN:zzz T eH 9 20 ["dialect","text"] (pY K (aM 54)):=by
 have La:=Iv T
 have Fb:=DR T
 have Qe:=M9 T
 refine T.rK.ok pJ 'g' 'a'
 ·obtain⟨x,dx,z,p,q,f,b1,b2,b3,b4,rfl,_⟩:=h;rfl
 ·have hu:=bx hr
  obtain⟨x,dx,z,p,q,f,b1,b2,b3,b4,rfl,hx,g,hz,hz2,k⟩:=h
  have hw:=λe=>Ky (p:=p) (q:=q) (f:=f) (b1:=b1) (b2:=b2) (b3:=b3) (b4:=b4) (w:=("row":Str)) (u:=("":Str)) (cs:=z.cps.toList) (e:=e)
  refine⟨_,(aq (dj 2 pJ.nd (dR Qe hr T.Pr T.KR.kp T.Pq (af (pv 0) (af (pv 1) ak))))
   (aq (aO (cC LW (dR La hr T.KU T.DE.kp T.KS (af (pv 2) ak)) gw) (ay (aC gw)) aD)
   (ay (aC (dR Fb hr T.EY T.yt.kp T.EX (af (pv 1) (af (jK K (pv 2) au) ak))))))),?_⟩
  refine⟨_,O,_,O,x,dx,z,p,q,f,b1,b2,b3,b4,O,hx,g,hz,hz2,λtw lk s H1 ht GS hk hs s1=>?_⟩
  unfold Sf at k
  generalize runM p q f b1 b2 b3 b4 ("row":Str) ("":Str) z.cps.toList=r at ht hk hs hw k
  refine⟨_,O,tw,lk,s,r.1,r.2.1,r.2.2.1,r.2.2.2,O,ht,hk,hs,λh1 h2=>?_,λh1 t Oa=>?_⟩
  ·refine⟨O,_,O,Gm (abo rfl) ?_⟩
   have hW:zq r=("":Str):=by unfold zq;rw[h1];exact abj h2
   refine⟨_,O,_,O,tw,_,_,_,O,O,bD.of ht,O,z,lk,r.1,O,hk,hz2,λl es H2 hl hl2 nl nd rw2 s2=>?_⟩
   refine k (.ref l) H2 ?_ (s1.trans s2)
   unfold CD
   rw[abj hW]
   exact⟨l,es,O,s1.free hl,hl2,aQ (λa b ⟨c,e1,e2,e3⟩=>⟨c,e1,s1.free e2,e3⟩) rw2⟩
  have hW:zq r≠Str.ofString "":=by
   unfold zq
   cases ho:r.2.2.2 with
   |some e=>exact(hw e ho).1
   |none =>
    show(if vD r.2.1 r.2.2.1=true then Str.ofString "" else Str.ofString "cut")≠_
    rw[abb (by rw[h1 ho];decide)]
    exact λq=>absurd (congrArg (λz=>bA z ("":Str)) q) (by decide +kernel)
  refine⟨O,_,O,Gp (abn (by intro z;cases z)) ?_⟩
  refine k .non _ ?_ (s1.trans (ah Oa))
  unfold CD
  rw[abb hW]
  rfl
inductive ow(K:W.Frag)(C:Addr)(vs:List V)(H:Hp)(Q:VK)(E_:XK):Prop where
 |mk (ld:Addr) (z:Str) (xs:List V) (cs:List iK):(vs=[.ref ld,.str z])->(H ld=some (.lst xs))->(vE C H xs cs)->((∀c∈cs,AE c))->(cs.length<=100)->(gh z)->(z.length<=2000)->(∀l H',H l=none->H' l=some (.lst ((readM (nM cs z)).map nV))->aG H H'->Q (.ref l) H')->ow K C vs H Q E_
theorem yH:zzz T eH 10 21 ["dialects","text"] (ow K (aM 54)):=by
 have BV:=zN T
 refine T.pO.ok nO 'g' 'a'
 ·obtain⟨ld,z,xs,cs,rfl,_⟩:=h;rfl
 ·have hu:=bx hr
  obtain⟨ld,z,xs,cs,rfl,hd,mk,gd,hc,hz,zJ,k⟩:=h
  have uQ:=hr.units
  have S8:=mk.length
  have hrl:(nM cs z).length=cs.length:=by unfold nM;exact aa9 _
  refine⟨_,(aq (dj 2 nO.nd (di rfl (show aX ["dialects","text","tables"] (aA fZ) ["dialect","text"] 1 [1] _ from zp) (bL K rfl (pv 0)) (λ_ _ _ _=>(e7 0 (show(["dialect","text"]:List Str).Nodup by decide +kernel))) (λ_ _ _ _=>dh) (λ_ _ _ _=>(dR BV hr T.BF T.rK.kp T.BE (af (pv 0) (af (pv 1) ak))))))
   (ay (aC (di rfl (show aX ["dialects","text","tables"] (aA fZ) ["table","tables"] 1 [2] _ from zp) (bL K rfl (pv 2)) (λ_ _ _ _=>(e7 0 (show(["table","tables"]:List Str).Nodup by decide +kernel))) (λ_ _ _ _=>dh) (λ_ _ _ _=>(dw K rfl abE PySem.F.slot_list_index PySem.F.type_list_index (Kd K rfl uQ) (pv 1) (af (pv 0) ak))))))),?_⟩
  refine⟨_,O,ld,O,⟨_,aN.of hd⟩,λD hD=>?_⟩
  have D7:(upd H D (.lst [])) D≠none:=by rw[ai];intro q;cases q
  have za:∀{J:Hp}{ys:List V},aG H J->J D=some (.lst ys)->∀b,J b=none->(upd H D (.lst [])) b=none:=λsJ hJ b hb=>(aH (λq=>by rw[q,hJ]at hb;cases hb)).trans (sJ.free hb)
  generalize Xo:upd H D (.lst [])=A0 at D7 za
  refine bZ (K:=K) (a:=ld) (xs:=xs) (λi ys τ J=>(∃v,τ=[v,some (.str z)])/\aG H J/\J D=some (.lst ys)/\Rds A0 J ys ((nM cs z).take i)) ⟨⟨_,rfl⟩,ah hD,ai,.nil⟩ (λi ys τ J _ p=>⟨aN.of (p.2.1 _ _ hd),p.2.2.1⟩) ?_ ?_
  ·rintro i e ys τ J hi ⟨⟨v,rfl⟩,sJ,hJ,rs⟩
   obtain⟨x,hx,y,dy,rfl,hy⟩:=aI mk i e hi
   have hil:i<cs.length:=(abd.mp hx).1
   have hyl:=rs.length
   rw[abJ]at hyl
   refine o7 ?_
   refine⟨_,O,_,O,y,dy,z,x.1,x.2.1,x.2.2.1,x.2.2.2.a,x.2.2.2.b,x.2.2.2.c,x.2.2.2.d,O,sJ _ _ hy,gd x (abi hx),hz,zJ,λv H1 rv s1=>?_⟩
   have Iz:=s1 _ _ hJ
   refine⟨Iz,abr (show ys.length<=100 by omega) 'c',⟨_,O⟩,aL hD (sJ.trans s1),ai,?_⟩
   rw[bw (l:=nM cs z) (c:=CD (runC x z) z) (by unfold nM;rw[abM,hx];rfl)]
   exact cu (aQ (λ_ _ h=>(h.mono s1).set D7) rs) (.cons ((rv.old (za sJ hJ)).set D7) .nil)
  rintro ys τ J ⟨⟨v,rfl⟩,sJ,hJ,rs⟩
  rw[S8,aby (by rw[hrl];exact abh _)]at rs
  have hyl:=rs.length
  generalize nM cs z=os at rs hyl hrl k
  refine⟨_,O,D,O,⟨_,aN.of hJ⟩,λD2 S9=>?_⟩
  refine bZ (K:=K) (a:=D) (xs:=ys) (λi zs τ G=>(∃v,τ=[v,some (.ref D)])/\aG J G/\G D2=some (.lst zs)/\zs=((readM os).take i).map nV) ⟨⟨_,rfl⟩,ah S9,ai,rfl⟩ (λi zs τ G _ p=>⟨aN.of (p.2.1 _ _ hJ),p.2.2.1⟩) ?_ ?_
  ·rintro i e zs τ G hi ⟨⟨v,rfl⟩,sG,hG,rfl⟩
   obtain⟨o,ho,ro⟩:=aI rs i e hi
   have hil:i<os.length:=(abd.mp ho).1
   have hom:=abi ho
   refine o7 ?_
   obtain⟨aa2,hxa⟩:=Bp hom
   have Xp:=aQ (λ_ _ h=>o8.mono sG h) rs
   refine⟨_,O,.inl ⟨O,_,aN.of (sG _ _ hJ)⟩,_,O,D,ys,e,Pg A0 G o,ur o os,O,O,aN.of (sG _ _ hJ),λz hz=>?_,by omega,?_,λj z hj hz=>?_,?_⟩
   ·obtain⟨j,hj⟩:=ab2.mp hz
    obtain⟨o',_,QZ⟩:=aI Xp j z hj
    rw[Bq QZ]
    exact KC QZ (ro.mono sG)
   ·obtain⟨z,hz⟩:∃z,ys[ur o os]?=some z:=⟨_,abk 'b'⟩
    obtain⟨o',ho',QZ⟩:=aI Xp _ z hz
    rw[hxa]at ho'
    exact⟨z,hz,by rw[Bq QZ];exact abo (abx ho').symm⟩
   ·obtain⟨o',ho',QZ⟩:=aI Xp j z hz
    rw[Bq QZ]
    exact abn λq=>KD hj (by rw[ho',q])
   ·refine⟨hG,?_,⟨_,O⟩,aL S9 sG,ai,?_⟩
    ·rw[aa9,abJ]
     exact abr (show min i (readM os).length<=100 by omega) 'c'
    ·rw[bw (l:=readM os) (c:=ur o os) (by unfold readM;rw[abM,ho];rfl),abw];rfl
  rintro zs τ G ⟨⟨v,rfl⟩,sG,hG,rfl⟩
  have e:(readM os).take ys.length=readM os:=aby (by unfold readM;rw[aa9];omega)
  rw[e]at hG
  exact k D2 G (sJ.free S9) hG (sJ.trans sG)
inductive vR(K:W.Frag)(vs:List V)(H:Hp)(Q:VK)(E_:XK):Prop where
 |mk (lr lp:Addr) (r ps:List Nat):(vs=[.ref lr,.ref lp])->(H lr=some (.lst (r.map nV)))->(H lp=some (.lst (ps.map nV)))->((∀p∈ps,p<r.length))->(ps.length<=100)->(∀l es H',H l=none->H' l=some (.lst es)->bg H H' es (aE r ps)->aG H H'->Q (.ref l) H')->vR K vs H Q E_
theorem vS:zzz T eH 1 22 ["readings","places"] (vR K):=by
 refine T.qE.ok jR 'g' 'a'
 ·obtain⟨lr,lp,r,ps,rfl,_⟩:=h;rfl
 ·have hu:=bx hr
  have gg:=hr.aV
  obtain⟨lr,lp,r,ps,rfl,hlr,qI,hlt,hpl,k⟩:=h
  refine⟨_,(aq (dj 2 jR.nd (aW ak))
   (aq (gc abZ rfl (bL K rfl (pv 1)) (e7 3 jR.nd)
   (aq (xA (i:=4) rfl jR.nd rfl rfl (show aX ["readings","places","parts","place","beside"] (aA lP) ["part","readings","place"] 1 [0,3] _ from zp) (bL K rfl (pv 2)) (λ_ _ _ _=>(e7 0 (show(["part","readings","place"]:List Str).Nodup by decide +kernel))) (λ_ _ _ _=>(qT (cC aU (fM K (pv 1) (fM K (pv 0) au)) (fM K (pv 1) (pv 2))))) (λ_ _ _ _=>(pv 0)))
   (ay (aO (cC (ua K rfl gg) (pv 4) (aW ak)) (ay (dg (dw K rfl abE abH abI bI (pv 2) (af (aW (af (pv 3) ak)) ak)))) (ay (dg (dw K rfl abE abH abI bI (fM K (pv 4) au) (af (pv 3) ak))))))))
   (ay (aC (pv 2))))),?_⟩
  refine⟨by decide,λl hl=>?_⟩
  have s1:=ah (o:=HO.lst []) hl
  refine⟨_,O,lp,O,⟨_,aN.of (s1 _ _ qI)⟩,?_⟩
  refine ny (K:=K) (a:=lp) (xs:=ps.map nV) (λi σ J=>aG H J/\∃es v1 v2,σ=[some (.ref lr),some (.ref lp),some (.ref l),v1,v2]/\J l=some (.lst es)/\V.ref l∉es/\es.Nodup/\bg H J es (aE r (ps.take i))/\(aE r (ps.take i)).length<=i) ⟨s1,[],_,_,rfl,ai,by simp,List.nodup_nil,.nil,abh _⟩ (λi σ J _ q=>aN.of (q.1 _ _ qI)) ?_ ?_
  ·rintro i e σ J hi ⟨sJ,es,v1,v2,rfl,hJ,hn,nd,pa,pl⟩
   obtain⟨p,hp,rfl⟩:=lZ hi
   have Xq:=abi hp
   have hp1:=hlt p Xq
   have hil:i<ps.length:=(abd.mp hp).1
   have good:=cD (r:=r) (ps:=ps.take i)
   have Xr:=yc (r:=r) hp
   have Tc:∀q∈aE r (ps.take i),q.headD 0<r.length:=λq hq=>by
    obtain⟨h1,h2⟩:=good q hq
    cases q with
    |nil=>exact absurd rfl h1
    |cons x q=>exact hlt x (acr (h2 x (abl ..)))
   have hne:∀q∈aE r (ps.take i),q≠[]:=λq hq=>(good q hq).1
   have Lb:=pa.length
   have Td:∀q∈aE r (ps.take i),q.length<=i:=λq hq=>by
    have:=jQ hq;rw[abJ]at this;omega
   rw[Xr]
   generalize aE r (ps.take i)=qs at pa pl Tc hne Lb Td
   have Xs:fu (r.map nV) (p:Int)=some (nV (r.getD p 0)):=bh (Sh hp1)
   refine⟨_,O,l,O,⟨_,aN.of hJ⟩,λD hD=>?_⟩
   refine bZ (K:=K) (a:=l) (xs:=es) (λj ys τ G=>(∃v,τ=[v,some (.ref lr),some (nV p)])/\aG J G/\G D=some (.lst ys)/\ys=qz r p ((es.zip qs).take j)) ⟨⟨_,rfl⟩,ah hD,ai,rfl⟩ (λj ys τ G _ q=>⟨aN.of (q.2.1 _ _ hJ),q.2.2.1⟩) ?_ ?_
   ·rintro j e ys τ G hj ⟨⟨v,rfl⟩,sG,hG,rfl⟩
    obtain⟨q,hq,a,rfl,ha0,ha⟩:=aI pa j e hj
    have xG:=abi hq
    have Xu:=sG _ _ ha
    have hqn:=hne q xG
    have hql:=Tc q xG
    have pF:fu (q.map nV) 0=some (nV (q.headD 0)):=by
     cases q with
     |nil=>exact absurd rfl hqn
     |cons x q=>exact(show fu _ ((0:Nat):Int)=_ from bh rfl)
    have Xv:fu (r.map nV) ((q.headD 0:Nat):Int)=some (nV (r.getD (q.headD 0) 0)):=bh (Sh hql)
    have hrG:=sG _ _ (sJ _ _ hlr)
    have Xw:(es.zip qs)[j]?=some (.ref a,q):=by rw[abY];exact⟨hj,hq⟩
    have hhl:=Gz (r:=r) (p:=p) (Z:=(es.zip qs).take j)
    have zJ:((es.zip qs).take j).length<=100:=by rw[abJ,acs];omega
    rw[Dk Xw]
    refine⟨_,O,_,O,_,_,_,_,O,O,aN.of Xu,pF,_,_,_,_,O,O,aN.of hrG,Xv,_,O,_,O,_,_,_,_,O,O,aN.of hrG,Xs,O,_,O,?_⟩
    refine OZ (λc=>?_) (λc=>?_)
    ·have c:r.getD (q.headD 0) 0=r.getD p 0:=by omega
     rw[abj c]
     refine⟨_,O,hG,abr (show _<=200 by omega) 'c',⟨_,O⟩,aL hD sG,ai,O⟩
    ·have c:¬r.getD (q.headD 0) 0=r.getD p 0:=λe=>c 'b'
     rw[abb c]
     exact⟨⟨_,O⟩,sG,hG,O⟩
   rintro ys τ G ⟨⟨v,rfl⟩,sG,hG,rfl⟩
   have hel:es.length=qs.length:=Lb
   rw[aby (by rw[acs];omega)]at hG
   have Qf:=sG _ _ hJ
   have lD:l≠D:=λq=>by rw[q]at hJ;rw[hD]at hJ;cases hJ
   rcases um (r:=r) (p:=p) hel with ⟨e1,e2⟩|⟨e,ws,j,q,e1,e2,e3,e4⟩
   ·rw[e1]at hG
    rw[e2]
    dsimp only[bQ]
    refine⟨_,O,'c',λq0 mj=>⟨_,_,_,O,O,aN.of (ah mj _ _ hG),aN.of ai,_,O,fD (⟨_,O,.inl ⟨O,⟨_,aN.of (ah mj _ _ Qf)⟩⟩,_,O,(by show(1:Nat)<=sizeLine;decide),?_⟩)⟩⟩
    (have u1:=ah (o:=HO.lst []) mj;have g1:=ai (H:=G) (a:=q0) (o:=HO.lst []);generalize upd G q0 (HO.lst [])=G1 at u1 g1⊢)
    have Lc:=u1 _ _ Qf
    have D8:=sJ.trans (sG.trans u1)
    have LD:=bg.mono (sG.trans u1) pa
    intro n hn0
    have Te:n≠l:=λq=>by rw[q,Lc]at hn0;cases hn0
    have s2:=ah (o:=HO.lst [nV p]) hn0
    have Vq:V.ref n∉es:=λq=>by
     obtain⟨j,hj⟩:=ab2.mp q
     obtain⟨_,_,a,e,_,ha⟩:=aI LD j _ hj
     cases e;rw[ha]at hn0;cases hn0
    refine⟨_,_,_,O,O,s2 _ _ Lc,abr (show es.length<=200 by omega) 'c',aL hl (D8.trans s2),es++[.ref n],_,_,O,ai,?_,?_,?_,?_⟩
    ·intro q
     rcases abG.mp q with q|q
     ·exact hn q
     ·exact Te (V.ref.inj (abf.mp q)).symm
    ·exact acI.mpr ⟨nd,by simp,λx hx y hy e=>Vq (by rw[abf.mp hy]at e;exact e▸hx)⟩
    ·exact cu (bg.but hn (bg.mono s2 LD)) (.cons ⟨n,rfl,D8.free hn0,(aH Te).trans ai⟩ .nil)
    ·rw[abq];show qs.length+1<=i+1;omega
   ·rw[e1]at hG
    rw[e4]
    obtain⟨q',hq',a,rfl,ha0,ha⟩:=aI pa j e e2
    rw[e3]at hq';cases hq'
    dsimp only[bQ]
    have hqi:=Td q (abi e3)
    refine⟨_,O,'c',λq0 mj=>⟨_,_,_,O,O,aN.of (ah mj _ _ hG),aN.of ai,_,O,bE (⟨_,O,_,_,_,_,O,O,aN.of (ah mj _ _ hG),(show fu _ ((0:Nat):Int)=_ from bh rfl),.inl ⟨O,⟨_,aN.of (ah mj _ _ (sG _ _ ha))⟩⟩,_,O,_,_,_,O,O,(ah mj _ _ (sG _ _ ha)),?_,(aL ha0 (aL ((sJ.trans sG).free mj) (sJ.trans sG))),?_⟩)⟩⟩
    ·rw[aa9];exact abr (show q.length<=100 by omega) 'c'
    have sn:=ah (o:=HO.lst []) mj
    have Ob:=sG.trans sn
    have el:q++[p]=q++[p]:=rfl
    have al:l≠a:=λq=>hn (by rw[q];exact abi e2)
    refine⟨es,_,_,O,(aH al).trans (sn _ _ Qf),hn,nd,?_,by rw[List.length_set];omega⟩
    rw[show q.map nV++[nV p]=(q++[p]).map nV by rw[abw];rfl]
    exact bg.Pf (bg.mono Ob pa) nd e2
  ·rintro σ J ⟨sJ,es,v1,v2,rfl,hJ,hn,nd,pa,pl⟩
   rw[aby (by rw[aa9];exact abh _)]at pa
   exact⟨_,O,k l es J hl hJ pa sJ⟩
inductive jX(K:W.Frag)(vs:List V)(H:Hp)(Q:VK)(E_:XK):Prop where
 |mk (la lp:Addr) (zb:List V) (R:List (List Nat)) (ps:List Nat):(vs=[.ref la,.ref lp])->(H la=some (.lst zb))->(wB H zb R)->(R.length<=100)->(H lp=some (.lst (ps.map nV)))->(ps.length<=100)->((∀r∈R,∀p∈ps,p<r.length))->(∀H',aG H H'->Q (.bl (cM R ps)) H')->jX K vs H Q E_
theorem sr:zzz T eH 2 23 ["all_readings","places"] (jX K):=by
 have qJ:=vS T
 refine T.k7.ok rC 'g' 'a'
 ·obtain⟨la,lp,zb,R,ps,rfl,_⟩:=h;rfl
 ·have hu:=bx hr
  obtain⟨la,lp,zb,R,ps,rfl,hla,rg,hR,qI,hps,hb,k⟩:=h
  have hrl:=rg.length
  refine⟨_,(ay (aC (gv (kW K rfl rfl) T.yD (af (di rfl (show aX ["all_readings","places"] (aA fP) ["readings","places"] 1 [1] _ from zp) (bL K rfl (pv 0)) (λ_ _ _ _=>(e7 0 (show(["readings","places"]:List Str).Nodup by decide +kernel))) (λ_ _ _ _=>dh) (λ_ _ _ _=>(AD vp (gv (aK K rfl) T.bB (af (dR qJ hr T.yw T.qE.kp T.yu (af (pv 0) (af (pv 1) ak))) ak)) au))) ak)))),?_⟩
  refine⟨_,O,la,O,⟨_,aN.of hla⟩,λD hD=>?_⟩
  refine bZ (K:=K) (a:=la) (xs:=zb) (λi ys τ J=>(∃v,τ=[v,some (.ref lp)])/\aG H J/\J D=some (.lst ys)/\ys=((R.take i).map λr=>decide ((aE r ps).length<2)).map V.bl) ⟨⟨_,rfl⟩,ah hD,ai,rfl⟩ (λi ys τ J _ p=>⟨aN.of (p.2.1 _ _ hla),p.2.2.1⟩) ?_ ?_
  ·rintro i e ys τ J hi ⟨⟨v,rfl⟩,sJ,hJ,rfl⟩
   obtain⟨r,Q0,a,rfl,ha⟩:=aI rg i e hi
   have hrm:=abi Q0
   have hil:i<R.length:=(abd.mp Q0).1
   refine o7 ?_
   have Xx:=hb r hrm
   have hhJ:=sJ _ _ ha
   have hhp:=sJ _ _ qI
   refine⟨_,O,_,O,a,lp,r,ps,O,hhJ,hhp,Xx,hps,λl es H1 GS hl pa s1=>?_⟩
   have Vu:=pa.length
   have Iz:=s1 _ _ hJ
   have e2:((((R.take i).map λr=>decide ((aE r ps).length<2)).map V.bl)++[.bl (decide ((aE r ps).length<2))])=((R.take (i+1)).map λr=>decide ((aE r ps).length<2)).map V.bl:=by
    rw[bw Q0,abw,abw];rfl
   have e3:decide (((aE r ps).length:Int)<2)=decide ((aE r ps).length<2):=by
    rw[abS,abU,abU];omega
   refine⟨l,es,O,.inl (aN.of hl),_,_,O,O,Iz,?_,⟨_,O⟩,aL hD (sJ.trans s1),ai,?_⟩
   ·rw[aa9,aa9,abJ];exact abr (show min i R.length<=100 by omega) 'c'
   ·rw[Vu];show _++[V.bl (decide (((aE r ps).length:Int)<2))]=_;rw[e3];exact e2
  rintro ys τ J ⟨⟨v,rfl⟩,sJ,hJ,rfl⟩
  rw[hrl,aby (abh _)]at hJ
  have e4:((R.map λr=>decide ((aE r ps).length<2)).all id)=cM R ps:=by unfold cM;rw[List.all_map];rfl
  refine⟨D,R.map λr=>decide ((aE r ps).length<2),O,aN.of hJ,?_⟩
  rw[e4]
  exact k J sJ
inductive jY(K:W.Frag)(D:Nat)(vs:List V)(H:Hp)(Q:VK)(E_:XK):Prop where
 |mk (A:Hp) (d:Nat) (v:V) (u:PT):(vs=[v])->(d<D)->(eU A H d v u)->(neT d u)->(∀H',aG H H'->Q (.int (mh d u:Nat)) H')->jY K D vs H Q E_
theorem yI:∀d:Nat,bu P w K mg base eH (0+1*d) (aM 24) (aR 24) ["tree"] (jY K d):=by
 intro d
 induction d with
 |zero=>exact⟨λvs H Q E h=>by exfalso;obtain⟨A,d,v,u,rfl,hd,_⟩:=h;omega,λA outer s H args us vs Q E _ _ _ _ h=>by exfalso;obtain⟨A,d,v,u,rfl,hd,_⟩:=h;omega⟩
 |succ d ih =>
  have qK:=ih
  show bu P w K mg base eH (0+1*d+1) (aM 24) (aR 24) ["tree"] (jY K (d+1))
  refine T.qF.ok Dy 'g' 'a'
  ·obtain⟨A,d,v,u,rfl,_⟩:=h;rfl
  ·have Fc:=hr
   have hr:dM 0 _:=hr.mono 'b'
   obtain⟨A,e,v,u,rfl,hd,tr,ne,k⟩:=h
   refine⟨_,(aq (aO (cC aU (jK K (pv 0) au) az) (ay (aC au)) aD)
   (ay (aC (aF bV au (gv (AB K rfl rfl) T.E7 (af (di rfl (show aX ["tree"] (aA lQ) ["branch"] 1 [] _ from zp) (bL K rfl (jK K (pv 0) au)) (λ_ _ _ _=>(e7 0 QW)) (λ_ _ _ _=>dh) (λ_ _ _ _=>(dR qK Fc T.yy T.qF.kp T.yx (af (pv 0) ak) (hkk:=abh _)))) ak)))))),?_⟩
   cases u with
   |leaf ps =>
    have tr:∃t l,v=.ref t/\A t=none/\A l=none/\H t=some (.tup [.str 'd',.ref l])/\H l=some (.lst (ps.map nV)):=by cases e<;>exact tr
    obtain⟨t,l,rfl,_,_,ht,hl⟩:=tr
    have k:∀H',aG H H'->Q (.int ((0:Nat):Int)) H':=by cases e<;>exact k
    refine⟨_,O,_,_,_,_,O,O,bD.of ht,O,O,_,O,xB rfl (k _ (aG.refl _))⟩
   |ask i bs =>
   cases e with
   |zero=>exact tr.elim
   |succ e =>
   obtain⟨t,l,es,rfl,_,_,ht,hl,pr⟩:=tr
   obtain⟨n1,n2,n3⟩:=ne
   have Nb:=pr.length
   have n4:¬(V.str 'e'=V.str 'd'):=by decide +kernel
   refine⟨_,O,_,_,_,_,O,O,bD.of ht,O,O,_,O,jk n4 (⟨_,O,_,_,_,_,O,O,bD.of ht,O,_,O,⟨_,aN.of hl⟩,λD hD=>?_⟩)⟩
   refine bZ (K:=K) (a:=l) (xs:=es) (λj ys τ G=>(∃v,τ=[v])/\aG H G/\G D=some (.lst ys)/\ys=((bs.take j).map (mh e)).map λn:Nat=>V.int n) ⟨⟨_,rfl⟩,ah hD,ai,rfl⟩ (λj ys τ G _ q=>⟨aN.of (q.2.1 _ _ hl),q.2.2.1⟩) ?_ ?_
   ·rintro j e1 ys τ G hj ⟨⟨v,rfl⟩,sG,hG,rfl⟩
    obtain⟨b,hb,tb⟩:=aI pr j e1 hj
    refine o7 ?_
    refine⟨_,O,A,e,e1,b,O,by omega,eU.mono sG tb,n3 b (abi hb),λG2 s2=>?_⟩
    refine⟨s2 _ _ hG,?_,⟨_,O⟩,aL hD (sG.trans s2),ai,?_⟩
    ·rw[aa9,aa9,abJ];exact abr (show min j bs.length<=100 by omega) 'c'
    ·rw[bw hb,abw,abw];rfl
   rintro ys τ G ⟨⟨v,rfl⟩,sG,hG,rfl⟩
   rw[Nb,aby (abh _)]at hG
   refine⟨D,bs.map (mh e),O,aN.of hG,by simpa using n1,λn hn hm=>?_⟩
   have en:=GH hn hm
   subst en
   have k:∀H',aG H H'->Q (.int ((1+Dp (bs.map (mh e)):Nat):Int)) H':=k
   rw[Int.natCast_add]at k
   exact⟨_,_,O,O,k G sG⟩
theorem DS:zzz T eH 9 24 ["tree"] (jY K 9):=yI T 9
inductive pZ(K:W.Frag)(vs:List V)(H:Hp)(Q:VK)(E_:XK):Prop where
 |mk (n:Nat) (v:V) (t:Th) (lp:Addr) (ps:List Nat):(vs=[v,.ref lp])->(RT H n v t)->(H lp=some (.lst (ps.map nV)))->(ps.length<=100)->(∀H',aG H H'->Q (.bl (fQ t ps)) H')->pZ K vs H Q E_
theorem zO:zzz T eH 2 25 ["thing","places"] (pZ K):=by
 have qL:=vP T
 refine T.rL.ok zx 'g' 'a'
 ·obtain⟨n,v,t,lp,ps,rfl,_⟩:=h;rfl
 ·have hu:=bx hr
  obtain⟨n,v,t,lp,ps,rfl,hv,qI,hps,k⟩:=h
  obtain⟨ty,hty,hk,_⟩:=hv.kind K
  refine⟨_,(aq (aO (PW.pt (ia (dm (bT (gv (bW K rfl) T.bH (af (pv 0) (af (I0 "list" T.fh) ak))))) (gG (cC pH (gv (aK K rfl) T.bB (af (pv 0) ak)) (gv (aK K rfl) T.bB (af (pv 1) ak)))))) (ay (aC iV)) aD)
   (ay (aC (gv (kW K rfl rfl) T.yD (af (di rfl (show aX ["thing","places"] (aA i8) ["told","place"] 2 [] _ from zp) (Gg K rfl rfl T.E8 (af (pv 0) (af (pv 1) ak))) (λ_ _ _ _=>(eZ K rfl 2 rfl (aS (e7 0 (show(["told","place"]:List Str).Nodup by decide +kernel)) (aS (e7 1 (show(["told","place"]:List Str).Nodup by decide +kernel)) eY)))) (λ_ _ _ _=>dh) (λ_ _ _ _=>(dR qL hr T.yo T.qB.kp T.ym (af (pv 0) (af (pv 1) (af (pv 1) ak)))))) ak))))),?_⟩
  have nl:(∃m a es ts,n=m+1/\v=V.ref a/\t=.lst ts/\H a=some (.lst es)/\Paired (RT H m) es ts)\/Si t=false:=by
   rcases hv.three with h|⟨_,_,_,_,_,_,rfl,_⟩|⟨rfl,_⟩
   ·exact .inl h
   ·exact .inr rfl
   ·exact .inr rfl
  rcases nl with ⟨m,a,es,ts,rfl,rfl,rfl,ha,pr⟩|e
  rotate_left
  ·rw[e]at hk
   have e2:fQ t ps=false:=by cases t<;>first|rfl|cases e
   rw[e2]at k
   refine⟨_,O,_,_,_,_,O,hty,.inl ⟨_,⟨O,hk⟩⟩,_,O,fD (fD (k _ (aG.refl _)))⟩
  have Nb:=pr.length
  have pml:(ps.map nV).length=ps.length:=aa9 _
  have k:∀H',aG H H'->Q (.bl (decide (ts.length=ps.length)&&(ts.zip ps).all λx=>gP x.1 x.2 x.2)) H':=k
  refine⟨_,O,_,_,_,_,O,.lst ha,.inl ⟨_,⟨O,O⟩⟩,_,O,bE (⟨_,O,_,_,O,.inl (aN.of ha),_,O,_,_,O,.inl (aN.of qI),O,_,O,?_⟩)⟩
  refine NU (λc=>?_) (λc=>?_)
  ·have e:decide (ts.length=ps.length)=false:=abn 'b'
   rw[e,ab0]at k
   exact k H (aG.refl _)
  have c:ts.length=ps.length:=by omega
  rw[abo c,abR]at k
  refine⟨_,O,_,O,a,lp,O,⟨_,aN.of ha⟩,⟨_,aN.of qI⟩,λD hD=>?_⟩
  refine C9 (K:=K) (a:=a) (b:=lp) (xs:=es) (ys:=ps.map nV) (λi ws τ J=>(∃v1 v2,τ=[v1,v2])/\aG H J/\J D=some (.lst ws)/\ws=(((ts.zip ps).take i).map λx=>gP x.1 x.2 x.2).map V.bl) ⟨⟨_,_,rfl⟩,ah hD,ai,rfl⟩ (λi ws τ J _ p=>⟨aN.of (p.2.1 _ _ ha),aN.of (p.2.1 _ _ qI),p.2.2.1⟩) ?_ ?_
  ·rintro i x y t ws τ J hx hy ht ⟨⟨v1,v2,rfl⟩,sJ,hJ,rfl⟩
   obtain⟨p,hp,rfl⟩:=lZ hy
   obtain⟨u,Vv,ru⟩:=aI pr i x hx
   have hil:i<ts.length:=(abd.mp Vv).1
   have st:=ah (o:=HO.tup [x,nV p]) ht
   have hz:(ts.zip ps)[i]?=some (u,p):=by rw[abY];exact⟨Vv,hp⟩
   refine⟨t,_,O,bD.of ai,O,_,_,O,_,_,O,O,?_⟩
   dsimp only[JG]
   rw[abj rfl]
   have Ld:=sJ.trans st
   refine⟨_,O,_,O,_,O,m,x,u,p,p,O,ru.mono Ld,st _ _ hJ,?_,⟨_,_,O⟩,aL hD Ld,ai,?_⟩
   ·rw[aa9,aa9,abJ];exact abr (show min i (ts.zip ps).length<=100 by rw[acs];omega) 'c'
   ·rw[bw hz,abw,abw];rfl
  rintro ws τ J ⟨⟨v1,v2,rfl⟩,sJ,hJ,rfl⟩
  rw[aby (by rw[acs];omega)]at hJ
  refine⟨D,_,O,aN.of hJ,?_⟩
  rw[List.all_map]
  exact k J sJ
inductive jG(K:W.Frag)(D:Nat)(vs:List V)(H:Hp)(Q:VK)(E_:XK):Prop where
 |mk (la lp:Addr) (zb:List V) (R:List (List Nat)) (ps:List Nat) (v w:V) (t u:Th) (n:Nat):(vs=[.ref la,.ref lp,v,w])->(H la=some (.lst zb))->(wB H zb R)->(R.length<=100)->(H lp=some (.lst (ps.map nV)))->(ps.length<=100)->((∀r∈R,∀p∈ps,p<r.length))->(n<=2*D)->(RT H n v t)->(RT H n w u)->(∀H',aG H H'->Q (.bl (o9 (bK R D) R ps t u)) H')->jG K D vs H Q E_
inductive eO(K:W.Frag)(D:Nat)(vs:List V)(H:Hp)(Q:VK)(E_:XK):Prop where
 |mk (la lp:Addr) (zb:List V) (R:List (List Nat)) (ps:List Nat) (v:V) (t:Th) (n:Nat):(vs=[.ref la,.ref lp,v])->(H la=some (.lst zb))->(wB H zb R)->(R.length<=100)->(H lp=some (.lst (ps.map nV)))->(ps.length<=100)->((∀r∈R,∀p∈ps,p<r.length))->(n<2*D)->(RT H n v t)->(∀H',aG H H'->Q (.bl (bK R D ps t)) H')->eO K D vs H Q E_
theorem nj(d:Nat)(fJ:bu P w K mg base eH (2+2*d) (aM 27) (aR 27) ["all_readings","places","thing"] (eO K d)):bu P w K mg base eH (2+2*d+1) (aM 26) (aR 26) ["all_readings","places","at","branches"] (jG K d):=by
 have qL:=vP T
 have qJ:=vS T
 refine T.jT.ok jz 'g' 'a'
 ·obtain⟨la,lp,zb,R,ps,v,w,t,u,n,rfl,_⟩:=h;rfl
 ·have Fc:=hr
  have hr:dM 2 _:=hr.mono 'b'
  have gg:=hr.aV
  obtain⟨la,lp,zb,R,ps,v,w5,t,u,n,rfl,hla,rg,hR,qI,hps,hb,hn,hv,hw,k⟩:=h
  have hrl:=rg.length
  refine⟨_,(aq (aO (PW.pt (ia (dm (bT (dR qL hr T.yo T.qB.kp T.ym (af (pv 2) (af au (af (aF tX (gv (aK K rfl) T.bB (af (pv 0) ak)) au) ak)))))) (ia (dm (bT (gv (bW K rfl) T.bH (af (pv 3) (af (I0 "list" T.fh) ak))))) (gG (cC (ua K rfl gg) (pv 3) (aW ak)))))) (ay (aC iV)) aD)
   (aq (dj 4 jz.nd (dR qJ hr T.yw T.qE.kp T.yu (af (fM K (pv 0) (pv 2)) (af (pv 1) ak))))
   (aq (aO (cC pH (gv (aK K rfl) T.bB (af (pv 3) ak)) (gv (aK K rfl) T.bB (af (pv 4) ak))) (ay (aC iV)) aD)
   (ay (aC (gv (kW K rfl rfl) T.yD (af (di rfl (show aX ["all_readings","places","at","branches","parts"] (aA fc) ["part","branch","all_readings"] 2 [0] _ from zp) (Gg K rfl rfl T.E8 (af (pv 4) (af (pv 3) ak))) (λ_ _ _ _=>(eZ K rfl 2 rfl (aS (e7 0 (show(["part","branch","all_readings"]:List Str).Nodup by decide +kernel)) (aS (e7 1 (show(["part","branch","all_readings"]:List Str).Nodup by decide +kernel)) eY)))) (λ_ _ _ _=>dh) (λ_ _ _ _=>(dR fJ Fc T.nU T.jD.kp T.nS (af (pv 2) (af (pv 0) (af (pv 1) ak))) (hkk:=abh _)))) ak))))))),?_⟩
  obtain⟨ty,hty,hk,_⟩:=hw.kind K
  have nl:(∃m a es ts,n=m+1/\w5=V.ref a/\u=.lst ts/\H a=some (.lst es)/\Paired (RT H m) es ts)\/Si u=false:=by
   rcases hw.three with h|⟨_,_,_,_,_,_,rfl,_⟩|⟨rfl,_⟩
   ·exact .inl h
   ·exact .inr rfl
   ·exact .inr rfl
  refine⟨_,O,_,O,_,_,O,.inl (aN.of hla),_,_,O,O,_,_,_,_,_,O,hv,_,O,?_⟩
  refine rdB (λc1=>?_) (λc1=>?_)
  ·have c1:gP t 0 ((R.length:Int)-1)=false:=by rw[←hrl];simpa using c1
   rw[uq c1]at k
   exact k H (aG.refl _)
  have c1:gP t 0 ((R.length:Int)-1)=true:=by rw[←hrl];simpa using c1
  obtain⟨i,rfl,hi⟩:=HS c1
  rcases nl with ⟨m,a,es,ts,rfl,rfl,rfl,ha,pr⟩|e
  rotate_left
  ·rw[Bo e]at k
   rw[e]at hk
   refine⟨_,O,_,_,_,_,O,hty,.inl ⟨_,⟨O,hk⟩⟩,_,O,fD (fD (k _ (aG.refl _)))⟩
  rw[nK hi]at k
  have Nb:=pr.length
  obtain⟨rv,hrv⟩:∃rv,zb[i]?=some rv:=⟨_,abk 'b'⟩
  obtain⟨r,Q0,ra,rfl,hra⟩:=aI rg i rv hrv
  have hrm:=abi Q0
  have er:R.getD i []=r:=by rw[abV,Q0];rfl
  rw[er]at k
  obtain⟨rfl,_⟩:=RT.yd hv
  have ati:fu zb (i:Int)=some (.ref ra):=bh hrv
  have Xx:=hb r hrm
  cases pr with
  |nil =>
   have k:∀H',aG H H'->Q (.bl false) H':=k
   refine⟨_,O,_,_,_,_,O,.lst ha,.inl ⟨_,⟨O,O⟩⟩,_,O,bE (⟨_,O,'c',λq0 mj=>⟨_,_,_,O,O,aN.of (ah mj _ _ ha),aN.of ai,_,O,fD (k _ (aL mj (aG.refl _)))⟩⟩)⟩
  |@cons e0 t0 es ts p0 pr =>
  have k:∀H',aG H H'->Q (.bl (decide ((t0::ts).length=(aE r ps).length)&&((aE r ps).zip (t0::ts)).all λx=>bK R d x.1 x.2)) H':=k
  have Vw:Paired (RT H m) (e0::es) (t0::ts):=.cons p0 pr
  have Nb:(e0::es).length=(t0::ts).length:=Vw.length
  refine⟨_,O,_,_,_,_,O,.lst ha,.inl ⟨_,⟨O,O⟩⟩,_,O,bE (⟨_,O,'c',λq0 mj=>⟨_,_,_,O,O,aN.of (ah mj _ _ ha),aN.of ai,_,O,bE (⟨_,O,_,O,_,_,_,_,O,O,aN.of (ah mj _ _ hla),ati,_,O,_,_,_,_,O,(ah mj _ _ hra),(ah mj _ _ qI),Xx,'b',λl5 es5 H5 aa3 Xy Xz s5=>⟨_,O,_,_,O,.inl (aN.of (s5 _ _ (ah mj _ _ ha))),_,O,_,_,O,.inl (aN.of Xy),O,_,O,?_⟩⟩)⟩⟩)⟩
  have pl5:=Xz.length
  refine NU (λc=>?_) (λc=>?_)
  ·have e:decide ((t0::ts).length=(aE r ps).length)=false:=abn 'b'
   rw[e,ab0]at k
   exact k _ ((ah mj).trans s5)
  have c:(t0::ts).length=(aE r ps).length:=by omega
  rw[abo c,abR]at k
  have Tf:=(ah (o:=HO.lst []) mj).trans s5
  have XA:=Tf _ _ ha
  have XC:=Tf _ _ hla
  have rg5:=wB.mono Tf rg
  have good:=cD (r:=r) (ps:=ps)
  have Oc:∀q∈aE r ps,q.length<=ps.length:=λq hq=>jQ hq
  have Qg:=iw (r:=r) (ps:=ps)
  generalize aE r ps=qs at Xz pl5 c k good Oc Qg
  generalize t0::ts=us at Vw Nb c k
  generalize e0::es=vs at Vw Nb XA c k
  refine⟨_,O,_,O,l5,a,O,⟨_,aN.of Xy⟩,⟨_,aN.of XA⟩,λD hD=>?_⟩
  refine C9 (K:=K) (a:=l5) (b:=a) (xs:=es5) (ys:=vs) (λi ws τ J=>(∃v1 v2,τ=[v1,v2,some (.ref la)])/\aG H5 J/\J D=some (.lst ws)/\ws=(((qs.zip us).take i).map λx=>bK R d x.1 x.2).map V.bl) ⟨⟨_,_,rfl⟩,ah hD,ai,rfl⟩ (λi ws τ J _ p=>⟨aN.of (p.2.1 _ _ Xy),aN.of (p.2.1 _ _ XA),p.2.2.1⟩) ?_ ?_
  ·rintro i x y t ws τ J hx hy ht ⟨⟨v1,v2,rfl⟩,sJ,hJ,rfl⟩
   obtain⟨q,hq,b,rfl,hb0,hbv⟩:=aI Xz i x hx
   obtain⟨u,Vv,ru⟩:=aI Vw i y hy
   have xG:=abi hq
   have hil:i<qs.length:=(abd.mp hq).1
   have st:=ah (o:=HO.tup [.ref b,y]) ht
   have hz:(qs.zip us)[i]?=some (q,u):=by rw[abY];exact⟨hq,Vv⟩
   refine⟨t,_,O,bD.of ai,O,_,_,O,_,_,O,O,?_⟩
   dsimp only[JG]
   rw[abj rfl]
   have Ld:=sJ.trans st
   have Q2:=Tf.trans Ld
   refine⟨_,O,_,O,_,O,la,b,zb,R,q,y,u,m,O,Ld _ _ XC,wB.mono Ld rg5,hR,Ld _ _ hbv,?_,λr' hr' p hp=>hb r' hr' p ((good q xG).2 p hp),by omega,(ru.mono Q2),λH6 s6=>?_⟩
   ·have:=Oc q xG;omega
   refine⟨s6 _ _ (st _ _ hJ),?_,⟨_,_,O⟩,aL hD (Ld.trans s6),ai,?_⟩
   ·rw[aa9,aa9,abJ];exact abr (show min i (qs.zip us).length<=100 by rw[acs];omega) 'c'
   ·rw[bw hz,abw,abw];rfl
  rintro ws τ J ⟨⟨v1,v2,rfl⟩,sJ,hJ,rfl⟩
  rw[aby (by rw[acs];omega)]at hJ
  refine⟨D,_,O,aN.of hJ,?_⟩
  rw[List.all_map]
  exact k J (Tf.trans sJ)
theorem qM:∀d:Nat,bu P w K mg base eH (2+2*d) (aM 27) (aR 27) ["all_readings","places","thing"] (eO K d):=by
 intro d
 induction d with
 |zero=>exact⟨λvs H Q E h=>by exfalso;obtain⟨la,lp,zb,R,ps,v,t,n,rfl,hla,rg,hR,qI,hps,hb,hn,_⟩:=h;omega,λA outer s H args us vs Q E _ _ _ _ h=>by exfalso;obtain⟨la,lp,zb,R,ps,v,t,n,rfl,hla,rg,hR,qI,hps,hb,hn,_⟩:=h;omega⟩
 |succ d ih =>
  have fJ:=ih
  show bu P w K mg base eH (2+2*d+1+1) (aM 27) (aR 27) ["all_readings","places","thing"] (eO K (d+1))
  have BW:=zO T
  have uR:=sr T
  have su:=nj T d fJ
  refine T.jD.ok wD 'g' 'a'
  ·obtain⟨la,lp,zb,R,ps,v,t,n,rfl,_⟩:=h;rfl
  ·have Fc:=hr
   have hr:dM 2 _:=hr.mono 'b'
   obtain⟨la,lp,zb,R,ps,v,t,n,rfl,hla,rg,hR,qI,hps,hb,hn,hv,k⟩:=h
   refine⟨_,(aq (aO (PW.pt (ia (dm (bT (gv (bW K rfl) T.bH (af (pv 2) (af (I0 "tuple" T.n8) ak))))) (ia (cC vp (gv (aK K rfl) T.bB (af (pv 2) ak)) au) (gG (dm (bT (gv (bW K rfl) T.bH (af (jK K (pv 2) au) (af (I0 "str" T.BP) ak))))))))) (ay (aC iV)) aD)
   (aq (aO (PW.pt (cI (cC aU (jK K (pv 2) au) az) (cj (cC aU (gv (aK K rfl) T.bB (af (pv 2) ak)) au)))) (ay (aC (xK (dR BW hr T.BH T.rL.kp T.BG (af (jK K (pv 2) au) (af (pv 1) ak))) (xJ (dR uR hr T.uH T.k7.kp T.uG (af (pv 0) (af (pv 1) ak))))))) aD)
   (aq (aO (PW.pt (cI (cC aU (jK K (pv 2) au) az) (cj (cC aU (gv (aK K rfl) T.bB (af (pv 2) ak)) au)))) (ay (aC (dR su Fc T.rN T.jT.kp T.rM (af (pv 0) (af (pv 1) (af (jK K (pv 2) au) (af (jK K (pv 2) au) ak)))) (hkk:=abh _)))) aD)
   (ay (aC iV))))),?_⟩
   obtain⟨ty,hty,_,hk,_⟩:=hv.kind K
   have nl:(∃m a es ts,n=m+1/\v=V.ref a/\t=.tup ts/\H a=some (.tup es)/\Paired (RT H m) es ts)\/WZ t=false:=by
    rcases hv.three with ⟨_,_,_,_,_,_,rfl,_⟩|h|⟨rfl,_⟩
    ·exact .inr rfl
    ·exact .inl h
    ·exact .inr rfl
   rcases nl with ⟨m,a,es,ts,rfl,rfl,rfl,ha,pr⟩|e
   rotate_left
   ·rw[jx e]at k
    rw[e]at hk
    refine⟨_,O,_,_,_,_,O,hty,.inl ⟨_,⟨O,hk⟩⟩,_,O,fD (fD (k _ (aG.refl _)))⟩
   have Nb:=pr.length
   cases pr with
   |nil=>rw[rA (by simp)]at k;refine⟨_,rfl,_,_,_,_,rfl,.tup ha,.inl ⟨_,⟨rfl,rfl⟩⟩,_,rfl,bE (⟨_,rfl,_,_,rfl,.inr (bD.of ha),_,_,rfl,rfl,_,rfl,xB (by decide +kernel) (fD (k _ (aG.refl _)))⟩)⟩
   |@cons e0 t0 es ts p0 pr =>
   cases pr with
   |nil=>rw[rA (by simp)]at k;refine⟨_,rfl,_,_,_,_,rfl,.tup ha,.inl ⟨_,⟨rfl,rfl⟩⟩,_,rfl,bE (⟨_,rfl,_,_,rfl,.inr (bD.of ha),_,_,rfl,rfl,_,rfl,xB (by simp) (fD (k _ (aG.refl _)))⟩)⟩
   |@cons e1 t1 es ts p1 pr =>
   have pF:fu (e0::e1::es) 0=some e0:=(show fu _ ((0:Nat):Int)=_ from bh rfl)
   have D9:fu (e0::e1::es) 1=some e1:=(show fu _ ((1:Nat):Int)=_ from bh rfl)
   obtain⟨ty0,XD,_,_,hk0⟩:=p0.kind K
   have hnl:¬(((e0::e1::es).length:Int)<2):=by rw[abF,abF];omega
   have nw:(∃w,e0=.str w/\t0=.at (.str w))\/W0 t0=false:=by
    cases t0 with
    |«at» x =>
     cases x with
     |str w=>exact .inl ⟨w,(RT.yd p0).1,rfl⟩
     |_=>exact .inr rfl
    |_=>exact .inr rfl
   rcases nw with ⟨w5,rfl,rfl⟩|e
   rotate_left
   ·rw[Dm e]at k
    rw[e]at hk0
    refine⟨_,O,_,_,_,_,O,.tup ha,.inl ⟨_,⟨O,O⟩⟩,_,O,bE (⟨_,O,_,_,O,.inr (bD.of ha),_,_,O,O,_,O,jk hnl (⟨_,O,_,_,_,_,O,O,bD.of ha,pF,_,_,_,_,O,XD,.inl ⟨_,⟨O,hk0⟩⟩,_,O,fD (k _ (aG.refl _))⟩)⟩)⟩
   by_cases c1:bA w5 'd'=true
   ·have e5:=kJ c1
    subst e5
    cases pr with
    |nil =>
     rw[oS,cH,abR]at k
     refine⟨_,O,_,_,_,_,O,.tup ha,.inl ⟨_,⟨O,O⟩⟩,_,O,bE (⟨_,O,_,_,O,.inr (bD.of ha),_,_,O,O,_,O,jk hnl (⟨_,O,_,_,_,_,O,O,bD.of ha,O,_,_,_,_,O,.str _,.inl ⟨_,⟨O,O⟩⟩,_,O,bE (⟨_,O,_,_,_,_,O,O,bD.of ha,O,O,_,O,xB rfl (⟨_,O,_,_,O,.inr (bD.of ha),O,_,O,QT (by simp) (⟨_,O,_,_,_,_,O,O,bD.of ha,O,_,O,_,_,_,_,_,O,p1,qI,'b',λH1 s1=>⟨_,O,?_⟩⟩)⟩)⟩)⟩)⟩)⟩
     refine rdB (λc3=>?_) (λc3=>?_)
     ·rw[c3,abR]at k
      exact⟨_,O,_,O,la,lp,zb,R,ps,O,s1 _ _ hla,wB.mono s1 rg,hR,s1 _ _ qI,hps,hb,λH2 s2=>k H2 (s1.trans s2)⟩
     ·rw[c3,ab0]at k
      exact k H1 s1
    |@cons e2 t2 es ts p2 pr =>
     have k:∀H',aG H H'->Q (.bl false) H':=by
      cases pr with
      |nil=>rw[iB,show bA 'd' 'e'=false by decide +kernel]at k;exact k
      |@cons e3 t3 es ts p3 pr=>rw[xD (by simp)]at k;exact k
     have n2:¬(((V.str 'd'::e1::e2::es).length:Int)=2):=by simp only[abF];omega
     have n4:¬(V.str 'd'=V.str 'e'):=by decide +kernel
     refine⟨_,O,_,_,_,_,O,.tup ha,.inl ⟨_,⟨O,O⟩⟩,_,O,bE (⟨_,O,_,_,O,.inr (bD.of ha),_,_,O,O,_,O,jk hnl (⟨_,O,_,_,_,_,O,O,bD.of ha,pF,_,_,_,_,O,.str _,.inl ⟨_,⟨O,O⟩⟩,_,O,bE (⟨_,O,_,_,_,_,O,O,bD.of ha,pF,O,_,O,xB rfl (⟨_,O,_,_,O,.inr (bD.of ha),O,_,O,EB n2 (⟨_,O,_,_,_,_,O,O,bD.of ha,pF,O,_,O,jk n4 (bE (k _ (aG.refl _)))⟩)⟩)⟩)⟩)⟩)⟩
   have n1:¬(V.str w5=V.str 'd'):=λq=>c1 (by rw[V.str.inj q];exact cH _)
   by_cases c2:bA w5 'e'=true
   ·have e5:=kJ c2
    subst e5
    cases pr with
    |nil =>
     rw[oS,show bA 'e' 'd'=false by decide +kernel,ab0]at k
     have n2:¬(((V.str 'e'::[e1]).length:Int)=3):=by simp
     refine⟨_,O,_,_,_,_,O,.tup ha,.inl ⟨_,⟨O,O⟩⟩,_,O,bE (⟨_,O,_,_,O,.inr (bD.of ha),_,_,O,O,_,O,jk hnl (⟨_,O,_,_,_,_,O,O,bD.of ha,O,_,_,_,_,O,.str _,.inl ⟨_,⟨O,O⟩⟩,_,O,bE (⟨_,O,_,_,_,_,O,O,bD.of ha,O,O,_,O,jk n1 (bE (⟨_,O,_,_,_,_,O,O,bD.of ha,O,O,_,O,xB rfl (⟨_,O,_,_,O,.inr (bD.of ha),O,_,O,EB n2 (k _ (aG.refl _))⟩)⟩))⟩)⟩)⟩)⟩
    |@cons e2 t2 es ts p2 pr =>
    have at2:fu (.str 'e'::e1::e2::es) 2=some e2:=(show fu _ ((2:Nat):Int)=_ from bh rfl)
    cases pr with
    |nil =>
     rw[iB,cH,abR]at k
     refine⟨_,O,_,_,_,_,O,.tup ha,.inl ⟨_,⟨O,O⟩⟩,_,O,bE (⟨_,O,_,_,O,.inr (bD.of ha),_,_,O,O,_,O,jk hnl (⟨_,O,_,_,_,_,O,O,bD.of ha,O,_,_,_,_,O,.str _,.inl ⟨_,⟨O,O⟩⟩,_,O,bE (⟨_,O,_,_,_,_,O,O,bD.of ha,O,O,_,O,jk n1 (bE (⟨_,O,_,_,_,_,O,O,bD.of ha,O,O,_,O,xB rfl (⟨_,O,_,_,O,.inr (bD.of ha),O,_,O,QT (by simp) (⟨_,O,_,O,_,O,_,_,_,_,O,O,bD.of ha,O,_,O,_,_,_,_,O,O,bD.of ha,O,?_⟩)⟩)⟩))⟩)⟩)⟩)⟩
     exact⟨la,lp,zb,R,ps,e1,e2,t1,t2,m,O,hla,rg,hR,qI,hps,hb,by omega,p1,p2,k⟩
    |@cons e3 t3 es ts p3 pr =>
     rw[xD (by simp)]at k
     have n2:¬(((V.str 'e'::e1::e2::e3::es).length:Int)=3):=by simp only[abF];omega
     refine⟨_,O,_,_,_,_,O,.tup ha,.inl ⟨_,⟨O,O⟩⟩,_,O,bE (⟨_,O,_,_,O,.inr (bD.of ha),_,_,O,O,_,O,jk hnl (⟨_,O,_,_,_,_,O,O,bD.of ha,pF,_,_,_,_,O,.str _,.inl ⟨_,⟨O,O⟩⟩,_,O,bE (⟨_,O,_,_,_,_,O,O,bD.of ha,pF,O,_,O,jk n1 (bE (⟨_,O,_,_,_,_,O,O,bD.of ha,pF,O,_,O,xB rfl (⟨_,O,_,_,O,.inr (bD.of ha),O,_,O,EB n2 (k _ (aG.refl _))⟩)⟩))⟩)⟩)⟩)⟩
   have n3:¬(V.str w5=V.str 'e'):=λq=>c2 (by rw[V.str.inj q];exact cH _)
   have k:∀H',aG H H'->Q (.bl false) H':=by
    cases pr with
    |nil=>rw[oS,gu c1,ab0]at k;exact k
    |@cons e2 t2 es ts p2 pr =>
     cases pr with
     |nil=>rw[iB,gu c2,ab0]at k;exact k
     |@cons e3 t3 es ts p3 pr=>rw[xD (by simp)]at k;exact k
   refine⟨_,O,_,_,_,_,O,.tup ha,.inl ⟨_,⟨O,O⟩⟩,_,O,bE (⟨_,O,_,_,O,.inr (bD.of ha),_,_,O,O,_,O,jk hnl (⟨_,O,_,_,_,_,O,O,bD.of ha,pF,_,_,_,_,O,.str _,.inl ⟨_,⟨O,O⟩⟩,_,O,bE (⟨_,O,_,_,_,_,O,O,bD.of ha,pF,O,_,O,jk n1 (bE (⟨_,O,_,_,_,_,O,O,bD.of ha,pF,O,_,O,jk n3 (bE (k _ (aG.refl _)))⟩))⟩)⟩)⟩)⟩
theorem wR:zzz T eH 20 27 ["all_readings","places","thing"] (eO K 9):=qM T 9
inductive DT(K:W.Frag)(C:Addr)(vs:List V)(H:Hp)(Q:VK)(E_:XK):Prop where
 |mk (ld lt:Addr) (xs:List V) (cs:List iK) (zs:List Str) (v:V) (t:Th) (n:Nat):(vs=[.ref ld,.ref lt,v])->(H ld=some (.lst xs))->(vE C H xs cs)->((∀c∈cs,AE c))->(cs.length<=100)->(H lt=some (.lst (zs.map V.str)))->(zs.length<=100)->((∀z∈zs,gh z/\z.length<=2000))->(n<18)->(RT H n v t)->(∀H',aG H H'->Q (.bl (bK (gi cs zs) 9 (List.range cs.length) t)) H')->DT K C vs H Q E_
theorem Le:zzz T eH 21 28 ["dialects","texts","tree"] (DT K (aM 54)):=by
 have zP:=yH T
 have fJ:=wR T
 refine T.oW.ok Dz 'g' 'a'
 ·obtain⟨ld,lt,xs,cs,zs,v,t,n,rfl,_⟩:=h;rfl
 ·have hu:=bx hr
  obtain⟨ld,lt,xs,cs,zs,v5,t,n,rfl,hd,mk,gd,hc,hlt,Nc,hz,hn,hv,k⟩:=h
  have S8:=mk.length
  refine⟨_,(aq (xA (i:=3) rfl Dz.nd rfl rfl (show aX ["dialects","texts","tree","all_readings"] (aA xC) ["text","dialects"] 1 [0] _ from zp) (bL K rfl (pv 1)) (λ_ _ _ _=>(e7 0 (show(["text","dialects"]:List Str).Nodup by decide +kernel))) (λ_ _ _ _=>dh) (λ_ _ _ _=>(dR zP hr T.zB T.pO.kp T.zA (af (pv 1) (af (pv 0) ak)))))
   (ay (aC (dR fJ hr T.nU T.jD.kp T.nS (af (pv 3) (af (vC rfl rfl T.fh rfl T.fH (af (gv (aK K rfl) T.bB (af (pv 0) ak)) ak)) (af (pv 2) ak))))))),?_⟩
  refine⟨_,O,lt,O,⟨_,aN.of hlt⟩,λD hD=>?_⟩
  have D7:(upd H D (.lst [])) D≠none:=by rw[ai];intro q;cases q
  have za:∀{J:Hp}{ys:List V},aG H J->J D=some (.lst ys)->∀b,J b=none->(upd H D (.lst [])) b=none:=λsJ hJ b hb=>(aH (λq=>by rw[q,hJ]at hb;cases hb)).trans (sJ.free hb)
  generalize Xo:upd H D (.lst [])=A0 at D7 za
  refine bZ (K:=K) (a:=lt) (xs:=zs.map V.str) (λi ys τ J=>(∃v,τ=[v,some (.ref ld)])/\aG H J/\J D=some (.lst ys)/\bg A0 J ys ((gi cs zs).take i)) ⟨⟨_,rfl⟩,ah hD,ai,.nil⟩ (λi ys τ J _ p=>⟨aN.of (p.2.1 _ _ hlt),p.2.2.1⟩) ?_ ?_
  ·rintro i e ys τ J hi ⟨⟨v,rfl⟩,sJ,hJ,rs⟩
   obtain⟨z,XE,rfl⟩:=rj hi
   obtain⟨z1,z2⟩:=hz z (abi XE)
   have hil:i<zs.length:=(abd.mp XE).1
   have hyl:=rs.length
   rw[abJ]at hyl
   refine o7 ?_
   refine⟨_,O,_,O,ld,z,xs,cs,O,sJ _ _ hd,vE.mono sJ mk,gd,hc,z1,z2,λl G hl hlv s1=>?_⟩
   have Iz:=s1 _ _ hJ
   refine⟨Iz,abr (show ys.length<=200 by omega) 'c',⟨_,O⟩,aL hD (sJ.trans s1),ai,?_⟩
   rw[bw (l:=gi cs zs) (c:=readM (nM cs z)) (by unfold gi;rw[abM,XE];rfl)]
   exact cu (bg.set D7 (bg.mono s1 rs)) (bg.set D7 (.cons ⟨l,rfl,za sJ hJ l hl,hlv⟩ .nil))
  rintro ys τ J ⟨⟨v,rfl⟩,sJ,hJ,rs⟩
  have zJ:(zs.map V.str).length=zs.length:=aa9 _
  have Vx:(gi cs zs).length=zs.length:=aa9 _
  rw[zJ,aby 'b']at rs
  have rg:=bg.rdg rs
  dsimp only[bQ]
  have hdJ:=sJ _ _ hd
  have hrb:∀r∈gi cs zs,∀p∈List.range cs.length,p<r.length:=λr hr p hp=>by rw[ME r hr];exact acJ.mp hp
  refine⟨_,O,_,O,ld,xs,O,.inl (aN.of hdJ),_,O,by omega,by omega,λl hl=>?_⟩
  rw[S8,Dn]
  have sl:=ah (o:=HO.lst ((List.range cs.length).map nV)) hl
  refine⟨_,O,D,l,ys,gi cs zs,List.range cs.length,v5,t,n,O,sl _ _ hJ,wB.mono sl rg,by omega,ai,by rw[List.length_range];omega,hrb,hn,RT.mono (sJ.trans sl) hv,λH2 s2=>k H2 ((sJ.trans sl).trans s2)⟩
inductive m7(K:W.Frag)(vs:List V)(H:Hp)(Q:VK)(E_:XK):Prop where
 |mk (a:Addr) (ns:List Int) (i:Int):(vs=[.ref a,.int i])->(aN K H a (ns.map V.int))->(0<=i)->(∀r:Int,Q (.int r) H)->m7 K vs H Q E_
theorem m8:zzz T eH 1 29 ["_law_script","_law_k"] (m7 K):=by
 refine T.cX.ok wF 'g' 'a'
 ·obtain⟨a,ns,i,rfl,_⟩:=h;rfl
 ·have hu:=bx hr
  obtain⟨a,ns,i,rfl,hS,hi,k⟩:=h
  refine⟨_,(aq (aO (cC vp (pv 1) (gv (aK K rfl) T.bB (af (pv 0) ak))) (ay (aC (fM K (pv 0) (pv 1)))) aD)
   (ay (aC au))),?_⟩
  refine⟨_,O,_,O,a,_,O,.inl hS,_,_,O,O,_,O,?_⟩
  refine bf (λhc=>?_) (λ_=>?_)
  ·have hlt:=abT hc
   obtain⟨v,ev,hv⟩:=EI hi hlt
   obtain⟨r,_,rfl⟩:=List.mem_map.mp hv
   exact⟨_,O,_,O,a,_,_,_,O,O,hS,ev,k r⟩
  ·exact k 0
inductive kR(vs:List V)(H:Hp)(Q:VK)(E_:XK):Prop where
 |mk (a b:Int):(vs=[.int a,.int b])->(0<=a)->(a<4294967296)->(0<=b)->(b<65536)->(∀r:Int,0<=r->r<49979687->Q (.int r) H)->kR vs H Q E_
theorem f9:zzz T eH 1 30 ["_law_number_here","_law_salt"] kR:=by
 refine T.cN.ok kN 'g' 'a'
 ·obtain⟨a,b,rfl,_⟩:=h;rfl
 ·have hu:=bx hr
  obtain⟨a,b,rfl,ha,ha',hb,hb',k⟩:=h
  refine⟨_,(aq (dj 2 kN.nd (aF bq (aF bV (aF fm (pv 0) (aF bV au (aF fm au (pv 1)))) (aF fm au (pv 1))) au))
   (aq (dj 3 kN.nd (aF bq (aF bV (aF fm (pv 2) (pv 2)) (pv 1)) au))
   (ay (aC (aF bq (aF bV (aF fm (pv 3) (pv 3)) (pv 2)) au))))),?_⟩
  refine⟨_,O,_,O,_,_,O,O,.inl ⟨by decide,by decide⟩,_,_,O,O,_,_,O,O,.inl ⟨by omega,by omega⟩,_,O,_,_,O,O,.inl ⟨by decide,by decide⟩,_,_,O,O,_,_,O,O,(by show(0:Int)<15485863;decide),?_⟩
  have h1:=abN (a*(1299709+210*b)+7919*b) (show(15485863:Int)≠0 by decide)
  have h2:=abL (a*(1299709+210*b)+7919*b) (show(0:Int)<15485863 by decide)
  refine⟨_,O,_,O,_,_,O,O,.inl ⟨by omega,by omega⟩,_,O,_,_,O,O,_,_,O,O,(by show(0:Int)<32452843;decide),?_⟩
  refine⟨_,O,_,O,_,_,O,O,.inl ⟨?_,?_⟩,_,O,_,_,O,O,_,_,O,O,(by show(0:Int)<49979687;decide),?_⟩
  ·exact Int.lt_of_lt_of_le 'c' (abN _ 'c')
  ·exact Int.lt_trans (abL _ 'c') 'c'
  ·exact k _ (abN _ 'c') (abL _ 'c')
inductive oz(vs:List V)(H:Hp)(Q:VK)(E_:XK):Prop where
 |mk (c s:Int):(vs=[.int c,.int s])->(0<=s)->(s<60000)->(∀r:Int,Q (.int r) H)->oz vs H Q E_
theorem yJ:zzz T eH 2 31 ["_law_cell","_law_salt"] oz:=by
 have bN:=f9 T
 refine T.pP.ok jA 'g' 'a'
 ·obtain⟨c,s,rfl,_⟩:=h;rfl
 ·have hu:=bx hr
  obtain⟨c,sa,rfl,hs,hs',k⟩:=h
  refine⟨_,(aq (aO (PW.pt (cI (cC aU (aF bq (pv 0) au) au) (cj (cC Jq (pv 0) (aF fm au (aF AU au au)))))) (ay (aC (aF tX (aF bS (pv 0) au) (aF AU au au)))) aD)
   (aq (dj 2 jA.nd (aF bq (pv 0) au))
   (aq (dj 3 jA.nd (aF bV (aF fm (dR bN hr T.dI T.cN.kp T.dH (af (pv 2) (af (pv 1) ak))) au) (dR bN hr T.dI T.cN.kp T.dH (af (pv 2) (af (aF bV (pv 1) au) ak)))))
   (ay (aC (aF bV (aF fm (pv 3) au) (dR bN hr T.dI T.cN.kp T.dH (af (pv 2) (af (aF bV (pv 1) au) ak))))))))),?_⟩
  have p18:RB 10 18:=⟨by decide,by decide,by decide⟩
  have n0:0<=c % 1000000007:=abN _ 'c'
  have n1:c % 1000000007<4294967296:=Int.lt_trans (abL _ 'c') 'c'
  refine⟨_,O,_,_,O,O,(by show(0:Int)<2;decide),O,_,O,?_⟩
  refine bf (λ_=>?_) (λ_=>?_)
  ·refine⟨_,O,_,_,O,O,p18,_,_,O,O,.inl ⟨by decide,by decide⟩,_,_,O,O,_,O,?_⟩
   refine bf (λ_=>?_) (λ_=>?_)
   ·exact⟨_,O,_,_,O,O,⟨by decide,by decide⟩,_,_,O,O,p18,_,_,O,O,k _⟩
   ·refine⟨_,O,_,_,O,O,(by show(0:Int)<1000000007;decide),?_⟩
    refine⟨_,O,_,O,_,_,O,n0,n1,by omega,by omega,λr1 _ _=>?_⟩
    refine⟨_,_,O,O,.inr ⟨by decide,by decide⟩,_,O,_,O,_,_,O,O,_,_,O,n0,n1,by omega,by omega,λr2 _ _=>⟨_,_,O,O,?_⟩⟩
    refine⟨_,O,_,_,O,O,.inr ⟨by decide,by decide⟩,_,O,_,O,_,_,O,O,_,_,O,n0,n1,by omega,by omega,λr3 _ _=>⟨_,_,O,O,k _⟩⟩
  ·refine⟨_,O,_,_,O,O,(by show(0:Int)<1000000007;decide),?_⟩
   refine⟨_,O,_,O,_,_,O,n0,n1,by omega,by omega,λr1 _ _=>?_⟩
   refine⟨_,_,O,O,.inr ⟨by decide,by decide⟩,_,O,_,O,_,_,O,O,_,_,O,n0,n1,by omega,by omega,λr2 _ _=>⟨_,_,O,O,?_⟩⟩
   refine⟨_,O,_,_,O,O,.inr ⟨by decide,by decide⟩,_,O,_,O,_,_,O,O,_,_,O,n0,n1,by omega,by omega,λr3 _ _=>⟨_,_,O,O,k _⟩⟩
inductive sy(vs:List V)(H:Hp)(Q:VK)(E_:XK):Prop where
 |mk (n m:Int) (me:Str):(vs=[.int n,.int m,.str me])->(Mn me)->(0<=m)->(m<=3)->(∀(t:Addr)(z:Str)(r:Int),Sg z->(z.length:Int)<=m->(1<=m->1<=z.length)->H t=none->Q (.ref t) (upd H t (.tup [.str z,.int r])))->sy vs H Q E_
theorem BX:zzz T eH 1 32 ["_law_number_here","_law_many","_law_menu_here"] sy:=by
 refine T.jU.ok fS 'g' 'a'
 ·obtain⟨n,m,me,rfl,_⟩:=h;rfl
 ·have hu:=bx hr
  obtain⟨n,m,me,rfl,⟨hm1,hm2,hm3⟩,h0,h3,k⟩:=h
  have hml:me.length<=sizeLine:=abv hm2 'c'
  refine⟨_,(aq (dj 3 fS.nd az)
   (aq (gc abZ rfl (fN rfl T.fH (af (pv 1) ak)) (e7 4 fS.nd)
   (aq (dj 5 fS.nd (Aq AZ (pv 2) (aF bq (pv 0) (gv d9 T.bB (af (pv 2) ak))) (λ_ _=>rfl)))
   (aq (dj 0 fS.nd (aF bS (pv 0) (gv d9 T.bB (af (pv 2) ak))))
   (ay (aO (dP Ba (pv 5) (pv 3) rfl) (ay (dj 3 fS.nd (aF fq (pv 3) (pv 5)))) aD)))))
   (ay (aC (aB (af (pv 3) (af (pv 0) ak))))))),?_⟩
  refine⟨_,O,m,O,by omega,by omega,?_⟩
  refine je (λi σ H2=>H2=H/\∃(r:Int)(z:Str)(v1 v2:Option V),σ=[some (.int r),some (.int m),some (.str me),some (.str z),v1,v2]/\Sg z/\z.length<=i/\(1<=i->1<=z.length)) ⟨rfl,n,_,_,_,rfl,O9,by decide,λz=>absurd z 'c'⟩ ?_ ?_
  ·rintro i σ H2 hi ⟨rfl,r,z,v1,v2,rfl,g,hz,hz1⟩
   have hlen:me.cps.toList.length=me.length:=by rw[abA];rfl
   obtain⟨c,ec,hc⟩:=EI (xs:=me.cps.toList) (abN r (show(me.length:Int)≠0 by omega)) (by rw[hlen];exact abL r 'b')
   refine⟨_,O,_,O,_,O,me,O,hml,_,_,O,O,(by show(0:Int)<me.length;omega),me,_,c,O,O,hml,ec,?_⟩
   refine⟨_,O,_,O,me,O,hml,_,_,O,O,⟨by show(0:Int)<me.length;omega,by show(me.length:Int)<1073741824;omega⟩,?_⟩
   refine⟨_,O,_,O,_,_,O,O,_,O,?_⟩
   refine bf (λha=>?_) (λha=>?_)
   ·have e1:(z++(⟨#[c]⟩:Str)).length=z.length+1:=lW _ _
    refine⟨_,O,_,O,_,_,O,O,?_,O,_,_,_,_,O,O8 g (hm3 c hc) ha,by rw[e1];omega,λ_=>by rw[e1];omega⟩
    exact abv (show z.length+1<=5 by omega) 'c'
   ·refine⟨O,_,_,_,_,O,g,by omega,λ_=>?_⟩
    have hin:c∈z.cps.toList:=Classical.byContradiction λq=>ha ((Dg z c).mpr q)
    have:=List.length_pos_of_mem hin
    rw[abA]at this
    exact this
  ·rintro σ H2 ⟨rfl,r,z,v1,v2,rfl,g,hz,hz1⟩
   exact⟨_,O,_,O,(by show 2<=sizeLine;decide),λt ht=>k t z r g 'b' (λq=>hz1 'b') ht⟩
inductive p7(vs:List V)(H:Hp)(Q:VK)(E_:XK):Prop where
 |mk (n:Int):(vs=[.int n])->(∀(l:Addr)(m1 m2 m3:Str),Mn m1->Mn m2->Mn m3->H l=none->Q (.ref l) (upd H l (.lst [.str m1,.str m2,.str m3])))->p7 vs H Q E_
theorem zQ:zzz T eH 1 33 ["_law_way"] p7:=by
 refine T.rQ.ok pK 'g' 'a'
 ·obtain⟨n,rfl,_⟩:=h;rfl
 ·have hu:=bx hr
  obtain⟨n,rfl,k⟩:=h
  refine⟨_,(aq (dj 1 pK.nd az)
   (aq (aO (cC aU (pv 0) au) (ay (aC (aW (af az (af az (af az ak)))))) aD)
   (aq (aO (cC aU (pv 0) au) (ay (aC (aW (af az (af az (af az ak)))))) aD)
   (ay (aC (aW (af (pv 1) (af (pv 1) (af (pv 1) ak))))))))),?_⟩
  refine⟨_,O,O,_,O,?_⟩
  refine bf (λ_=>?_) (λ_=>?_)
  ·exact⟨by decide,λl hl=>k l _ _ _ (by decide +kernel) (by decide +kernel) (by decide +kernel) hl⟩
  ·refine⟨_,O,O,_,O,?_⟩
   refine bf (λ_=>?_) (λ_=>?_)
   ·exact⟨by decide,λl hl=>k l _ _ _ (by decide +kernel) (by decide +kernel) (by decide +kernel) hl⟩
   ·exact⟨_,O,_,O,_,O,by decide,λl hl=>k l _ _ _ (by decide +kernel) (by decide +kernel) (by decide +kernel) hl⟩
inductive sH(vs:List V)(H:Hp)(Q:VK)(E_:XK):Prop where
 |mk (c:Int):(vs=[.int c])->(∀(t:Addr)(p q f:Str)(b1 b2 b3 b4:Bool)(H':Hp),Gd p q f->H t=none->H' t=some (.tup (pI p q f b1 b2 b3 b4))->aG H H'->Q (.ref t) H')->sH vs H Q E_
theorem BY:zzz T eH 3 34 ["_law_cell"] sH:=by
 have BZ:=zQ T
 have zR:=yJ T
 have oA:=BX T
 refine T.vG.ok bM 'g' 'a'
 ·obtain⟨c,rfl,_⟩:=h;rfl
 ·have hu:=bx hr
  obtain⟨c,rfl,k⟩:=h
  refine⟨_,(aq (dj 1 bM.nd (dR zR hr T.zD T.pP.kp T.zC (af (pv 0) (af au ak))))
   (aq (dj 2 bM.nd (aF bq (pv 1) au))
   (aq (dj 3 bM.nd (aW (af (aF bV au (aF bq (aF bS (pv 1) au) au)) (af (aF bq (aF bS (pv 1) au) au) (af (aF bq (aF bS (pv 1) au) au) ak)))))
   (aq (dj 4 bM.nd (dR BZ hr T.BJ T.rQ.kp T.BI (af (aF bq (aF bS (pv 1) au) au) ak)))
   (aq (dU (dR oA hr T.nY T.jU.kp T.nW (af (aF bS (pv 1) au) (af (fM K (pv 3) au) (af (fM K (pv 4) au) ak)))) (eZ K rfl 2 rfl (aS (e7 5 bM.nd) (aS (e7 1 bM.nd) eY))))
   (aq (dU (dR oA hr T.nY T.jU.kp T.nW (af (pv 1) (af (fM K (pv 3) au) (af (fM K (pv 4) au) ak)))) (eZ K rfl 2 rfl (aS (e7 6 bM.nd) (aS (e7 1 bM.nd) eY))))
   (aq (dU (dR oA hr T.nY T.jU.kp T.nW (af (pv 1) (af (fM K (pv 3) au) (af (fM K (pv 4) au) ak)))) (eZ K rfl 2 rfl (aS (e7 7 bM.nd) (aS (e7 1 bM.nd) eY))))
   (aq (dj 8 bM.nd (aW (af (AD aU (aF bq (pv 2) au) au) (af (AD aU (aF bq (aF bS (pv 2) au) au) au) (af (AD aU (aF bq (aF bS (pv 2) au) au) au) (af (AD aU (aF bq (aF bS (pv 2) au) au) au) ak))))))
   (ay (aC (aB (af (pv 5) (af (pv 6) (af (pv 7) (af (fM K (pv 8) au) (af (fM K (pv 8) au) (af (fM K (pv 8) au) (af (fM K (pv 8) au) ak)))))))))))))))))),?_⟩
  refine⟨_,O,_,_,O,by decide,by decide,λn=>?_⟩
  refine⟨_,O,_,_,O,O,(by show(0:Int)<16;decide),?_⟩
  refine⟨_,O,_,_,O,O,⟨by decide,by decide⟩,_,_,O,O,(by show(0:Int)<3;decide),_,_,O,O,_,O,_,_,O,O,⟨by decide,by decide⟩,_,_,O,O,(by show(0:Int)<3;decide),_,O,_,_,O,O,⟨by decide,by decide⟩,_,_,O,O,(by show(0:Int)<3;decide),(by show 3<=sizeLine;decide),λl hl=>?_⟩
  have m1:=abN (n / 16) (show(3:Int)≠0 by decide)
  have m1':=abL (n / 16) (show(0:Int)<3 by decide)
  have m2:=abN (n / 48) (show(3:Int)≠0 by decide)
  have m2':=abL (n / 48) (show(0:Int)<3 by decide)
  have m3:=abN (n / 144) (show(3:Int)≠0 by decide)
  have m3':=abL (n / 144) (show(0:Int)<3 by decide)
  have h1:(upd H l (.lst [.int (1+n / 16 % 3),.int (n / 48 % 3),.int (n / 144 % 3)])) l=some (.lst [.int (1+n / 16 % 3),.int (n / 48 % 3),.int (n / 144 % 3)]):=ai
  have s1:aG H (upd H l (.lst [.int (1+n / 16 % 3),.int (n / 48 % 3),.int (n / 144 % 3)])):=ah hl
  generalize upd H l (.lst [.int (1+n / 16 % 3),.int (n / 48 % 3),.int (n / 144 % 3)])=H1 at h1 s1⊢
  refine⟨_,O,_,_,O,O,⟨by decide,by decide⟩,_,_,O,O,(by show(0:Int)<3;decide),_,O,λl2 e1 e2 e3 g1 g2 g3 hl2=>?_⟩
  have h2:(upd H1 l2 (.lst [.str e1,.str e2,.str e3])) l2=some (.lst [.str e1,.str e2,.str e3]):=ai
  have s2:aG H1 (upd H1 l2 (.lst [.str e1,.str e2,.str e3])):=ah hl2
  generalize upd H1 l2 (.lst [.str e1,.str e2,.str e3])=H2 at h2 s2⊢
  have h12:=s2 _ _ h1
  refine⟨_,O,_,_,O,O,⟨by decide,by decide⟩,_,O,l,_,_,_,O,O,aN.of h12,O,_,O,l2,_,_,_,O,O,aN.of h2,O,_,_,_,O,g1,by omega,by omega,λt1 p r1 gp lp lp1 ht1=>?_⟩
  refine⟨t1,_,O,bD.of ai,O,_,_,O,_,_,O,O,?_⟩
  have s3:aG H2 (upd H2 t1 (.tup [.str p,.int r1])):=ah ht1
  generalize upd H2 t1 (.tup [.str p,.int r1])=H3 at s3⊢
  refine⟨_,O,_,O,l,_,_,_,O,O,aN.of (s3 _ _ h12),O,_,O,l2,_,_,_,O,O,aN.of (s3 _ _ h2),O,_,_,_,O,g2,by omega,by omega,λt2 q r2 gq lq lq1 GU=>?_⟩
  refine⟨t2,_,O,bD.of ai,O,_,_,O,_,_,O,O,?_⟩
  have s4:aG H3 (upd H3 t2 (.tup [.str q,.int r2])):=ah GU
  generalize upd H3 t2 (.tup [.str q,.int r2])=H4 at s4⊢
  refine⟨_,O,_,O,l,_,_,_,O,O,aN.of (s4 _ _ (s3 _ _ h12)),O,_,O,l2,_,_,_,O,O,aN.of (s4 _ _ (s3 _ _ h2)),O,_,_,_,O,g3,by omega,by omega,λt3 f r3 gf lf lf1 Jc=>?_⟩
  refine⟨t3,_,O,bD.of ai,O,_,_,O,_,_,O,O,?_⟩
  have s5:aG H4 (upd H4 t3 (.tup [.str f,.int r3])):=ah Jc
  generalize upd H4 t3 (.tup [.str f,.int r3])=H5 at s5⊢
  refine⟨_,O,_,_,O,O,(by show(0:Int)<2;decide),O,_,O,_,_,O,O,⟨by decide,by decide⟩,_,_,O,O,(by show(0:Int)<2;decide),O,_,O,_,_,O,O,⟨by decide,by decide⟩,_,_,O,O,(by show(0:Int)<2;decide),O,_,O,_,_,O,O,⟨by decide,by decide⟩,_,_,O,O,(by show(0:Int)<2;decide),O,(by show 4<=sizeLine;decide),λl6 hl6=>?_⟩
  have s6:=ah (o:=HO.lst [.bl (decide (V.int (n % 16 % 2)=V.int 1)),.bl (decide (V.int (n % 16 / 2 % 2)=V.int 1)),.bl (decide (V.int (n % 16 / 4 % 2)=V.int 1)),.bl (decide (V.int (n % 16 / 8 % 2)=V.int 1))]) hl6
  refine⟨_,O,_,O,_,O,_,O,l6,_,_,_,O,O,aN.of ai,O,_,O,l6,_,_,_,O,O,aN.of ai,O,_,O,l6,_,_,_,O,O,aN.of ai,O,_,O,l6,_,_,_,O,O,aN.of ai,O,(by show 7<=sizeLine;decide),λt ht=>?_⟩
  have Tg:=((((s1.trans s2).trans s3).trans s4).trans s5).trans s6
  exact k t p q f _ _ _ _ _ ⟨gp,gq,gf,lp1 'b',by omega,by omega,by omega⟩ (Tg.free ht) ai (Tg.trans (ah ht))
inductive p8(vs:List V)(H:Hp)(Q:VK)(E_:XK):Prop where
 |mk (c m:Int):(vs=[.int c,.int m])->(0<=m)->(m<=1000)->(∀(l:Addr)(ns:List Int)(H':Hp),ns.length=m.toNat->(∀n∈ns,0<=n)->H l=none->H' l=some (.lst (ns.map V.int))->aG H H'->Q (.ref l) H')->p8 vs H Q E_
theorem p9:zzz T eH 2 35 ["_law_cell","_law_many"] p8:=by
 have bN:=f9 T
 refine T.mE.ok eV 'g' 'a'
 ·obtain⟨c,m,rfl,_⟩:=h;rfl
 ·have hu:=bx hr
  obtain⟨c,m,rfl,hm,hm',k⟩:=h
  refine⟨_,(aq (aO (PW.pt (ia (cC aU (aF bq (pv 0) au) au) (gG (cC vp (pv 0) (aF fm au (aF AU au au)))))) (aq (dj 2 eV.nd (aF bq (pv 0) au))
   (ay (aC (di rfl (show aX ["_law_cell","_law_many","_law_number_here","_law_found","_law_k"] (aA i9) ["_law_k","_law_number_here"] 1 [2] _ from zp) (fN rfl T.fH (af (pv 1) ak)) (λ_ _ _ _=>(e7 0 (show(["_law_k","_law_number_here"]:List Str).Nodup by decide +kernel))) (λ_ _ _ _=>dh) (λ_ _ _ _=>(dR bN hr T.dI T.cN.kp T.dH (af (pv 1) (af (aF bV au (aF fm au (pv 0))) ak)))))))) aD)
   (aq (dj 3 eV.nd (aW ak))
   (aq (dj 2 eV.nd (aF tX (aF bS (pv 0) au) (aF AU au au)))
   (aq (gc abZ rfl (fN rfl T.fH (af (pv 1) ak)) (e7 4 eV.nd)
   (aq (dg (dw K rfl abE abH abI bI (pv 3) (af (aF bq (pv 2) au) ak)))
   (ay (dj 2 eV.nd (aF bS (pv 2) au)))))
   (ay (aC (pv 3))))))),?_⟩
  refine⟨_,O,_,_,O,O,(by show(0:Int)<2;decide),O,_,O,?_⟩
  have Ti:∀{D:Addr}{v:Option V},H D=none->vv (NN 0 m.toNat) (bQ 0) JG (Jx kR [] E0 (Jw (LN 1) (Jw (LB (LS λi j=>.int (i+j)) (tC (.int 71)) (LB (rI LV λi j=>.int (i*j)) (tC (.int 2)) (LN 0))) L0))) Q D [none,some (.int (c % 1000000007))] H:=by
   intro D v hD
   refine qq (λi ys τ H2=>(∃v,τ=[v,some (.int (c % 1000000007))])/\aG H H2/\H2 D=some (.lst ys)/\∃ns:List Int,ys=ns.map V.int/\ns.length=i/\∀n∈ns,0<=n) ⟨⟨_,rfl⟩,ah hD,ai,[],rfl,rfl,λ_ z=>nomatch z⟩ (λi ys τ H2 _ p=>p.2.2.1) ?_ ?_
   ·rintro i ys τ H2 hi ⟨⟨v,rfl⟩,s2,hl,ns,rfl,hn,hp⟩
    refine o7 ?_
    refine⟨_,O,_,O,_,_,O,O,.inl ⟨by decide,by decide⟩,_,_,O,O,_,_,O,abN _ 'c',Int.lt_trans (abL _ 'c') 'c',by omega,by omega,λr hr0 _=>?_⟩
    refine⟨hl,?_,⟨_,O⟩,aL hD s2,ai,ns++[r],by rw[abw];rfl,by rw[abq,hn];rfl,λn hn'=>?_⟩
    ·rw[aa9,hn]
     exact abD (show i<1000 by omega) 'c'
    ·rcases abG.mp hn' with z|z
     ·exact hp n z
     ·rw[abf.mp z];exact hr0
   ·rintro ys τ H2 ⟨⟨v,rfl⟩,s2,hl,ns,rfl,hn,hp⟩
    exact k D ns H2 hn hp hD hl s2
  refine bf (λ_=>?_) (λ_=>?_)
  ·refine fD ?_
   refine⟨_,O,_,_,O,O,(by show(0:Int)<1000000007;decide),?_⟩
   exact⟨_,rfl,m,rfl,by omega,by omega,λD hD=>Ti (v:=none) hD⟩
  ·refine⟨_,O,_,_,O,O,⟨by decide,by decide,by decide⟩,_,_,O,O,.inl ⟨by decide,by decide⟩,_,_,O,O,_,O,?_⟩
   refine bf (λ_=>?_) (λ_=>?_)
   ·refine⟨_,O,_,_,O,O,(by show(0:Int)<1000000007;decide),?_⟩
    exact⟨_,rfl,m,rfl,by omega,by omega,λD hD=>Ti (v:=none) hD⟩
   ·refine⟨by decide,λl hl=>?_⟩
    refine⟨_,O,_,_,O,O,⟨by decide,by decide⟩,_,_,O,O,⟨by decide,by decide,by decide⟩,_,_,O,O,?_⟩
    refine⟨_,O,m,O,by omega,by omega,?_⟩
    refine je (λi σ H2=>aG H H2/\∃(x:Int)(v:Option V)(ns:List Int),σ=[some (.int c),some (.int m),some (.int x),some (.ref l),v]/\H2 l=some (.lst (ns.map V.int))/\ns.length=i/\∀n∈ns,0<=n) ⟨ah hl,_,_,[],rfl,ai,rfl,λ_ z=>nomatch z⟩ ?_ ?_
    ·rintro i σ H2 hi ⟨s2,x,v,ns,rfl,hq,hn,hp⟩
     refine⟨_,O,.inl ⟨O,_,aN.of hq⟩,_,O,_,_,O,O,(by show(0:Int)<4096;decide),l,_,_,O,O,hq,?_,?_⟩
     ·rw[aa9,hn]
      exact abD (show i<1000 by omega) 'c'
     ·refine⟨_,O,_,_,O,O,⟨by decide,by decide⟩,?_⟩
      refine⟨aL hl s2,_,_,ns++[x % 4096],O,?_,by rw[abq,hn];rfl,λn hn'=>?_⟩
      ·rw[ai,abw];rfl
      ·rcases abG.mp hn' with z|z
       ·exact hp n z
       ·rw[abf.mp z];exact abN _ 'c'
    ·rintro σ H2 ⟨s2,x,v,ns,rfl,hq,hn,hp⟩
     exact⟨_,O,k l ns H2 hn hp hl hq s2⟩
inductive sI(K:W.Frag)(vs:List V)(H:Hp)(Q:VK)(E_:XK):Prop where
 |mk (t s:Addr) (w u:Str) (c:Nat) (p q f:Str) (b1 b2 b3 b4:Bool):(vs=[.ref t,.ref s,.str (sg c)])->(bD K H t (pI p q f b1 b2 b3 b4))->(bD K H s [.str w,.str u])->(∀v H',aG H H'->wz K H' v (gO p q f b3 b4 w u c)->Q v H')->sI K vs H Q E_
theorem B9:zzz T eH 1 36 ["_law_told_here","_law_state","_law_sign"] (sI K):=by
 refine T.vH.ok dG 'g' 'a'
 ·obtain⟨t,s,w,u,c,p,q,f,b1,b2,b3,b4,rfl,_⟩:=h;rfl
 ·have hu:=bx hr
  obtain⟨t,s,w,u,c,p,q,f,b1,b2,b3,b4,rfl,ht,hs,k⟩:=h
  refine'⟨_,?aa,?bb⟩
  case aa =>
   refine' aq ?s0 ?r0
   case s0 =>
    exact(dU (pv 0) (eZ K rfl 7 rfl (aS (e7 3 dG.nd) (aS (e7 4 dG.nd) (aS (e7 5 dG.nd) (aS (e7 6 dG.nd) (aS (e7 7 dG.nd) (aS (e7 8 dG.nd) (aS (e7 9 dG.nd) eY)))))))))
   case r0 =>
    refine' aq ?s1 ?r1
    case s1 =>
     refine' aO ?c2 ?b2 ?e2
     case c2=>exact(dP cB (pv 2) (pv 5) rfl)
     case b2 =>
      refine' ay ?s3
      case s3 =>
       refine' aC ?v4
       case v4 =>
        refine' aB ?a5
        case a5 =>
         refine' af ?x6 ?y6 ?z6
         case z6=>exact rfl
         case x6 =>
          exact az
         case y6 =>
          refine' af ?x7 ?y7 ?z7
          case z7=>exact rfl
          case x7 =>
           refine' aB ?a8
           case a8 =>
            refine' af ?x9 ?y9 ?z9
            case z9=>exact rfl
            case x9 =>
             exact az
            case y9 =>
             refine' af ?M6 ?M7 ?M8
             case M8=>exact rfl
             case M6 =>
              exact az
             case M7 =>
              exact ak
          case y7 =>
           exact ak
     case e2 =>
      exact aD
    case r1 =>
     refine' aq ?Tj ?XF
     case Tj =>
      refine' aO ?c12 ?XG ?e12
      case c12=>exact(cC aU (pv 2) az)
      case XG =>
       refine' ay ?Fd
       case Fd =>
        refine' aC ?v14
        case v14 =>
         refine' aB ?To
         case To =>
          refine' af ?Il ?Im ?Io
          case Io=>exact rfl
          case Il =>
           exact az
          case Im =>
           refine' af ?XH ?XI ?XJ
           case XJ=>exact rfl
           case XH =>
            refine' aB ?Qh
            case Qh =>
             refine' af ?Nd ?Nf ?Ng
             case Ng=>exact rfl
             case Nd =>
              exact az
             case Nf =>
              refine' af ?Tp ?Tq ?Tr
              case Tr=>exact rfl
              case Tp =>
               exact az
              case Tq =>
               exact ak
           case XI =>
            exact ak
      case e12 =>
       exact aD
     case XF =>
      refine' aq ?s21 ?r21
      case s21 =>
       refine' aO ?c22 ?Tt ?e22
       case c22=>exact(PW.pt (cI (cC pH (jK K (pv 1) au) az) (cj (dP cB (pv 2) (pv 4) rfl))))
       case Tt =>
        refine' ay ?XM
        case XM =>
         refine' aC ?v24
         case v24 =>
          refine' aB ?Tu
          case Tu =>
           refine' af ?K6 ?K7 ?K8
           case K8=>exact rfl
           case K6 =>
            exact az
           case K7 =>
            refine' af ?P4 ?P5 ?P6
            case P6=>exact rfl
            case P4 =>
             refine' aB ?Qi
             case Qi =>
              refine' af ?Tv ?Tw ?Tz
              case Tz=>exact rfl
              case Tv =>
               exact az
              case Tw =>
               refine' af ?K9 ?M0 ?M1
               case M1=>exact rfl
               case K9 =>
                exact(pv 2)
               case M0 =>
                exact ak
            case P5 =>
             exact ak
       case e22 =>
        exact aD
      case r21 =>
       refine' aq ?XO ?XQ
       case XO =>
        refine' aO ?XR ?TF ?XS
        case XR=>exact(dP cB (pv 2) (pv 3) rfl)
        case TF =>
         refine' ay ?XT
         case XT =>
          refine' aC ?XU
          case XU =>
           refine' aB ?TH
           case TH =>
            refine' af ?MX ?MY ?MZ
            case MZ=>exact rfl
            case MX =>
             exact az
            case MY =>
             refine' af ?PY ?PZ ?P0
             case P0=>exact rfl
             case PY =>
              refine' aB ?XW
              case XW =>
               refine' af ?x39 ?y39 ?z39
               case z39=>exact rfl
               case x39 =>
                exact az
               case y39 =>
                refine' af ?SV ?SW ?SX
                case SX=>exact rfl
                case SV =>
                 exact az
                case SW =>
                 exact ak
             case PZ =>
              exact ak
        case XS =>
         exact aD
       case XQ =>
        refine' aq ?s41 ?r41
        case s41 =>
         refine' aO ?c42 ?XX ?e42
         case c42=>exact(PW.pt (cI (cC pH (jK K (pv 1) au) az) (cI (bT (pv 8)) (cj (cC aU (pv 2) az)))))
         case XX =>
          refine' ay ?XY
          case XY =>
           refine' aC ?v44
           case v44 =>
            refine' aB ?XZ
            case XZ =>
             refine' af ?TJ ?TL ?TM
             case TM=>exact rfl
             case TJ =>
              exact az
             case TL =>
              refine' af ?PU ?PV ?PX
              case PX=>exact rfl
              case PU =>
               exact(pv 1)
              case PV =>
               exact ak
         case e42 =>
          exact aD
        case r41 =>
         refine' aq ?X0 ?Yb
         case X0 =>
          refine' aO ?c49 ?Yc ?e49
          case c49=>exact(PW.pt (cI (dP cB (pv 2) (pv 4) rfl) (cI (dm (bT (pv 9))) (cj (cC aU (jK K (pv 1) au) az)))))
          case Yc =>
           refine' ay ?s50
           case s50 =>
            refine' aC ?v51
            case v51 =>
             refine' aB ?Yd
             case Yd =>
              refine' af ?x53 ?y53 ?z53
              case z53=>exact rfl
              case x53 =>
               exact az
              case y53 =>
               refine' af ?TN ?TQ ?TR
               case TR=>exact rfl
               case TN =>
                exact az
               case TQ =>
                exact ak
          case e49 =>
           exact aD
         case Yb =>
          refine' ay ?s55
          case s55 =>
           refine' aC ?v56
           case v56 =>
            refine' aB ?Ye
            case Ye =>
             refine' af ?x58 ?y58 ?z58
             case z58=>exact rfl
             case x58 =>
              exact az
             case y58 =>
              refine' af ?TU ?TV ?TX
              case TX=>exact rfl
              case TU =>
               refine' aB ?TY
               case TY =>
                refine' af ?TZ ?T3 ?T4
                case T4=>exact rfl
                case TZ =>
                 exact az
                case T3 =>
                 refine' af ?Qj ?Qk ?Ql
                 case Ql=>exact rfl
                 case Qj =>
                  exact az
                 case Qk =>
                  exact ak
              case TV =>
               exact ak
  refine⟨_,O,t,_,O,ht,O,_,_,O,_,_,O,_,_,O,_,_,O,_,_,O,_,_,O,_,_,O,O,?_⟩
  by_cases hw:bA w ("plain":Str)=true
  ·refine⟨_,O,_,O,_,_,O,O,_,O,bf (λ(h1:jL c f=true)=>?_) (λ(h1:¬jL c f=true)=>?_)⟩
   ·exact bU (by unfold gO fW;rw[abj hw,abj h1]) dF k
   refine⟨_,O,O,_,O,bf (λ(h2:bA (sg c) (Str.ofString "\n")=true)=>?_) (λ(h2:¬bA (sg c) (Str.ofString "\n")=true)=>?_)⟩
   ·exact bU (by unfold gO fW;rw[abj hw,abb h1,abj h2]) qy k
   refine⟨_,O,s,_,_,_,O,O,hs,O,O,_,O,Gm hw (bE ?_)⟩
   refine⟨_,O,_,O,_,_,O,O,_,O,bf (λ(h3:jL c p=true)=>?_) (λ(h3:¬jL c p=true)=>?_)⟩
   ·exact bU (by unfold gO fW;rw[abj hw,abb h1,abb h2,abj h3]) lX k
   refine⟨_,O,s,_,_,_,O,O,hs,O,O,_,O,Gm hw (bE ?_)⟩
   refine⟨_,O,_,O,_,_,O,O,_,O,bf (λ(h4:jL c q=true)=>?_) (λ(h4:¬jL c q=true)=>?_)⟩
   ·refine⟨_,O,_,O,bf (λ(h5:(!b4)=true)=>?_) (λ(h5:¬(!b4)=true)=>?_)⟩
    ·refine⟨_,O,s,_,_,_,O,O,hs,O,O,_,O,xX hw ?_⟩
     exact iO (by unfold gO fW;rw[abj hw,abb h1,abb h2,abb h3,abj h4,abj h5]) k
    refine bE ?_
    exact bU (by unfold gO fW;rw[abj hw,abb h1,abb h2,abb h3,abj h4,abb h5]) dz k
   refine bE ?_
   exact bU (by unfold gO fW;rw[abj hw,abb h1,abb h2,abb h3,abb h4]) dz k
  ·refine⟨_,O,_,O,_,_,O,O,_,O,bf (λ(h1:jL c f=true)=>?_) (λ(h1:¬jL c f=true)=>?_)⟩
   ·exact bU (by unfold gO fF;rw[abb hw,abj h1]) dF k
   refine⟨_,O,O,_,O,bf (λ(h2:bA (sg c) (Str.ofString "\n")=true)=>?_) (λ(h2:¬bA (sg c) (Str.ofString "\n")=true)=>?_)⟩
   ·exact bU (by unfold gO fF;rw[abb hw,abb h1,abj h2]) qy k
   refine⟨_,O,s,_,_,_,O,O,hs,O,O,_,O,Gp (gu hw) ?_⟩
   refine⟨_,O,_,O,_,_,O,O,_,O,bf (λ(h3:jL c q=true)=>?_) (λ(h3:¬jL c q=true)=>?_)⟩
   ·exact⟨_,O,bU (by unfold gO fF;rw[abb hw,abb h1,abb h2,abj h3]) dF k⟩
   refine⟨_,O,_,O,_,_,O,O,_,O,bf (λ(h4:jL c p=true)=>?_) (λ(h4:¬jL c p=true)=>?_)⟩
   ·exact bU (by unfold gO fF;rw[abb hw,abb h1,abb h2,abb h3,abj h4]) lX k
   refine⟨_,O,s,_,_,_,O,O,hs,O,O,_,O,Gp (gu hw) ?_⟩
   refine⟨_,O,_,O,bf (λ(h5:b3=true)=>?_) (λ(h5:¬b3=true)=>?_)⟩
   ·refine⟨_,O,O,_,O,bf (λ(h6:bA (sg c) (" ":Str)=true)=>?_) (λ(h6:¬bA (sg c) (" ":Str)=true)=>?_)⟩
    ·exact⟨_,O,ig (by unfold gO fF;rw[abb hw,abb h1,abb h2,abb h3,abb h4,abj h6,abj h5]) dF (aG.refl _) hs k⟩
    refine⟨_,O,_,O,_,_,O,O,_,O,xY (gu h3) (bE ?_)⟩
    exact bU (by unfold gO fF;rw[abb hw,abb h1,abb h2,abb h3,abb h4,abb h6]) dz k
   refine bE ?_
   refine⟨_,O,_,O,_,_,O,O,_,O,xY (gu h3) (bE ?_)⟩
   exact bU (by unfold gO fF;rw[abb hw,abb h1,abb h2,abb h3,abb h4];by_cases h6:bA (sg c) (" ":Str)=true<;>simp only[h6,h5,acz,acH,ab4]) dz k
inductive sL(K:W.Frag)(vs:List V)(H:Hp)(Q:VK)(E_:XK):Prop where
 |mk (t s:Addr) (w u:Str) (c:Nat) (p q f:Str) (b1 b2 b3 b4:Bool):(vs=[.ref t,.ref s,.str (sg c)])->(bD K H t (pI p q f b1 b2 b3 b4))->(bD K H s [.str w,.str u])->(∀v H',aG H H'->wz K H' v (cU p q f b1 b2 b3 b4 w u c)->Q v H')->sL K vs H Q E_
theorem Ca:zzz T eH 2 37 ["_law_told_here","_law_state","_law_sign"] (sL K):=by
 have DU:=B9 T
 refine T.vI.ok cA 'g' 'a'
 ·obtain⟨t,s,w,u,c,p,q,f,b1,b2,b3,b4,rfl,_⟩:=h;rfl
 ·have hu:=bx hr
  obtain⟨t,s,w,u,c,p,q,f,b1,b2,b3,b4,rfl,ht,hs,k⟩:=h
  refine'⟨_,?aa,?bb⟩
  case aa =>
   refine' aq ?s0 ?r0
   case s0 =>
    exact(dU (pv 0) (eZ K rfl 7 rfl (aS (e7 3 cA.nd) (aS (e7 4 cA.nd) (aS (e7 5 cA.nd) (aS (e7 6 cA.nd) (aS (e7 7 cA.nd) (aS (e7 8 cA.nd) (aS (e7 9 cA.nd) eY)))))))))
   case r0 =>
    refine' aq ?s1 ?r1
    case s1 =>
     exact(dU (pv 1) (eZ K rfl 2 rfl (aS (e7 10 cA.nd) (aS (e7 11 cA.nd) eY))))
    case r1 =>
     refine' aq ?s2 ?r2
     case s2 =>
      refine' aO ?c3 ?b3 ?e3
      case c3=>exact(cC aU (pv 10) az)
      case b3 =>
       refine' aq ?s4 ?r4
       case s4 =>
        refine' aO ?c5 ?b5 ?e5
        case c5=>exact(dP cB (pv 2) (pv 5) rfl)
        case b5 =>
         refine' ay ?s6
         case s6 =>
          refine' aC ?v7
          case v7 =>
           refine' aB ?a8
           case a8 =>
            refine' af ?x9 ?y9 ?z9
            case z9=>exact rfl
            case x9 =>
             exact az
            case y9 =>
             refine' af ?M6 ?M7 ?M8
             case M8=>exact rfl
             case M6 =>
              refine' aB ?S4
              case S4 =>
               refine' af ?M3 ?M4 ?M5
               case M5=>exact rfl
               case M3 =>
                exact az
               case M4 =>
                refine' af ?S5 ?S6 ?S7
                case S7=>exact rfl
                case S5 =>
                 exact(pv 11)
                case S6 =>
                 exact ak
             case M7 =>
              exact ak
        case e5 =>
         exact aD
       case r4 =>
        refine' aq ?T5 ?Yg
        case T5 =>
         refine' aO ?c15 ?Yh ?e15
         case c15=>exact(cC aU (pv 2) (pv 11))
         case Yh =>
          refine' ay ?Yi
          case Yi =>
           refine' aC ?Yj
           case Yj =>
            refine' aB ?Qh
            case Qh =>
             refine' af ?Nd ?Nf ?Ng
             case Ng=>exact rfl
             case Nd =>
              exact az
             case Nf =>
              refine' af ?Tp ?Tq ?Tr
              case Tr=>exact rfl
              case Tp =>
               refine' fM K ?o21 ?i21 ?h21 ?k21
               case h21=>exact λ_ _=>rfl
               case k21=>exact rfl
               case o21 =>
                refine' aW ?T6
                case T6 =>
                 refine' af ?Ip ?Iq ?Ir
                 case Ir=>exact rfl
                 case Ip =>
                  refine' aB ?MW
                  case MW =>
                   refine' af ?PJ ?PK ?PL
                   case PL=>exact rfl
                   case PJ =>
                    exact az
                   case PK =>
                    refine' af ?K6 ?K7 ?K8
                    case K8=>exact rfl
                    case K6 =>
                     exact az
                    case K7 =>
                     exact ak
                 case Iq =>
                  refine' af ?P4 ?P5 ?P6
                  case P6=>exact rfl
                  case P4 =>
                   refine' aB ?Qi
                   case Qi =>
                    refine' af ?Tv ?Tw ?Tz
                    case Tz=>exact rfl
                    case Tv =>
                     exact az
                    case Tw =>
                     refine' af ?K9 ?M0 ?M1
                     case M1=>exact rfl
                     case K9 =>
                      exact(pv 11)
                     case M0 =>
                      exact ak
                  case P5 =>
                   exact ak
               case i21=>exact(EG Aj T.E6 (af (pv 6) ak))
              case Tq =>
               exact ak
         case e15 =>
          exact aD
        case Yg =>
         refine' aq ?XO ?XQ
         case XO =>
          refine' aO ?XR ?TF ?XS
          case XR=>exact(PW.pt (cI (cC aU (pv 2) az) (cj (dm (bT (pv 7))))))
          case TF =>
           refine' ay ?XT
           case XT =>
            refine' aC ?XU
            case XU =>
             refine' aB ?TH
             case TH =>
              refine' af ?MX ?MY ?MZ
              case MZ=>exact rfl
              case MX =>
               exact az
              case MY =>
               refine' af ?PY ?PZ ?P0
               case P0=>exact rfl
               case PY =>
                exact az
               case PZ =>
                exact ak
          case XS =>
           exact aD
         case XQ =>
          refine' ay ?s38
          case s38 =>
           refine' aC ?v39
           case v39 =>
            refine' aB ?Yk
            case Yk =>
             refine' af ?SY ?S0 ?S3
             case S3=>exact rfl
             case SY =>
              exact az
             case S0 =>
              refine' af ?SA ?SD ?SE
              case SE=>exact rfl
              case SA =>
               exact(pv 1)
              case SD =>
               exact ak
      case e3 =>
       exact aD
     case r2 =>
      refine' aq ?XY ?r43
      case XY =>
       refine' aO ?c44 ?Yl ?e44
       case c44=>exact(cC aU (pv 10) az)
       case Yl =>
        refine' aq ?Vy ?r45
        case Vy =>
         refine' aO ?c46 ?Ym ?e46
         case c46=>exact(PW.pt (cI (cC aU (pv 2) az) (cj (dm (bT (pv 7))))))
         case Ym =>
          refine' ay ?s47
          case s47 =>
           refine' aC ?v48
           case v48 =>
            refine' aB ?SJ
            case SJ =>
             refine' af ?SK ?SM ?SN
             case SN=>exact rfl
             case SK =>
              exact az
             case SM =>
              refine' af ?Xe ?Xf ?Xg
              case Xg=>exact rfl
              case Xe =>
               exact az
              case Xf =>
               exact ak
         case e46 =>
          exact aD
        case r45 =>
         refine' ay ?s52
         case s52 =>
          refine' aC ?v53
          case v53 =>
           refine' aB ?a54
           case a54 =>
            refine' af ?T7 ?T8 ?T9
            case T9=>exact rfl
            case T7 =>
             exact az
            case T8 =>
             refine' af ?Ua ?Ub ?Uc
             case Uc=>exact rfl
             case Ua =>
              refine' fM K ?o57 ?i57 ?h57 ?k57
              case h57=>exact λ_ _=>rfl
              case k57=>exact rfl
              case o57 =>
               refine' aW ?Yn
               case Yn =>
                refine' af ?TU ?TV ?TX
                case TX=>exact rfl
                case TU =>
                 refine' aB ?TY
                 case TY =>
                  refine' af ?TZ ?T3 ?T4
                  case T4=>exact rfl
                  case TZ =>
                   exact az
                  case T3 =>
                   refine' af ?Qj ?Qk ?Ql
                   case Ql=>exact rfl
                   case Qj =>
                    exact(pv 11)
                   case Qk =>
                    exact ak
                case TV =>
                 refine' af ?x63 ?y63 ?z63
                 case z63=>exact rfl
                 case x63 =>
                  refine' aB ?a64
                  case a64 =>
                   refine' af ?Yo ?Yp ?Yq
                   case Yq=>exact rfl
                   case Yo =>
                    exact az
                   case Yp =>
                    refine' af ?Ud ?Ue ?Ug
                    case Ug=>exact rfl
                    case Ud =>
                     exact az
                    case Ue =>
                     exact ak
                 case y63 =>
                  exact ak
              case i57=>exact(EG Aj T.E6 (af (AD aU (pv 11) az) ak))
             case Ub =>
              exact ak
       case e44 =>
        exact aD
      case r43 =>
       refine' aq ?s67 ?r67
       case s67 =>
        refine' aO ?c68 ?b68 ?e68
        case c68=>exact(PW.pt (cI (cC aU (pv 10) az) (cj (cC aU (pv 2) (pv 11)))))
        case b68 =>
         refine' ay ?s69
         case s69 =>
          refine' aC ?v70
          case v70 =>
           refine' aB ?Yr
           case Yr =>
            refine' af ?Uh ?Ui ?Uj
            case Uj=>exact rfl
            case Uh =>
             exact az
            case Ui =>
             refine' af ?Ys ?Yt ?Yu
             case Yu=>exact rfl
             case Ys =>
              refine' aB ?a74
              case a74 =>
               refine' af ?Yv ?Yw ?Yx
               case Yx=>exact rfl
               case Yv =>
                exact az
               case Yw =>
                refine' af ?Yy ?Yz ?YA
                case YA=>exact rfl
                case Yy =>
                 exact(pv 11)
                case Yz =>
                 exact ak
             case Yt =>
              exact ak
        case e68 =>
         exact aD
       case r67 =>
        refine' aq ?YB ?r77
        case YB =>
         refine' aO ?c78 ?b78 ?e78
         case c78=>exact(PW.pt (ia (cC aU (pv 10) az) (gG (cC aU (pv 10) az))))
         case b78 =>
          refine' aq ?LF ?YC
          case LF =>
           refine' aO ?YD ?YE ?YF
           case YD=>exact(cC aU (pv 2) az)
           case YE =>
            refine' ay ?YG
            case YG =>
             refine' aC ?v82
             case v82 =>
              refine' aB ?a83
              case a83 =>
               refine' af ?x84 ?y84 ?z84
               case z84=>exact rfl
               case x84 =>
                exact az
               case y84 =>
                refine' af ?x85 ?y85 ?z85
                case z85=>exact rfl
                case x85 =>
                 refine' aB ?a86
                 case a86 =>
                  refine' af ?x87 ?y87 ?z87
                  case z87=>exact rfl
                  case x87 =>
                   exact az
                  case y87 =>
                   refine' af ?x88 ?y88 ?z88
                   case z88=>exact rfl
                   case x88 =>
                    exact az
                   case y88 =>
                    exact ak
                case y85 =>
                 exact ak
           case YF =>
            exact aD
          case YC =>
           refine' aq ?s89 ?r89
           case s89 =>
            refine' aO ?c90 ?b90 ?e90
            case c90=>exact(dP cB (pv 2) (pv 3) rfl)
            case b90 =>
             refine' ay ?s91
             case s91 =>
              refine' aC ?v92
              case v92 =>
               refine' aB ?a93
               case a93 =>
                refine' af ?x94 ?y94 ?z94
                case z94=>exact rfl
                case x94 =>
                 exact az
                case y94 =>
                 refine' af ?x95 ?y95 ?z95
                 case z95=>exact rfl
                 case x95 =>
                  refine' aB ?a96
                  case a96 =>
                   refine' af ?x97 ?y97 ?z97
                   case z97=>exact rfl
                   case x97 =>
                    exact az
                   case y97 =>
                    refine' af ?x98 ?y98 ?z98
                    case z98=>exact rfl
                    case x98 =>
                     exact az
                    case y98 =>
                     exact ak
                 case y95 =>
                  exact ak
            case e90 =>
             exact aD
           case r89 =>
            refine' aq ?s99 ?r99
            case s99 =>
             refine' aO ?YH ?YI ?YJ
             case YH=>exact(PW.pt (cI (bT (pv 8)) (cj (cC aU (pv 2) az))))
             case YI =>
              refine' ay ?YK
              case YK =>
               refine' aC ?YL
               case YL =>
                refine' aB ?YN
                case YN =>
                 refine' af ?YO ?YQ ?YR
                 case YR=>exact rfl
                 case YO =>
                  exact az
                 case YQ =>
                  refine' af ?YS ?YT ?YU
                  case YU=>exact rfl
                  case YS =>
                   refine' aB ?YV
                   case YV =>
                    refine' af ?YW ?YX ?YY
                    case YY=>exact rfl
                    case YW =>
                     exact az
                    case YX =>
                     refine' af ?YZ ?Y0 ?Y3
                     case Y3=>exact rfl
                     case YZ =>
                      exact az
                     case Y0 =>
                      exact ak
                  case YT =>
                   exact ak
             case YJ =>
              exact aD
            case r99 =>
             refine' ay ?Y4
             case Y4 =>
              refine' aC ?Y5
              case Y5 =>
               refine' aB ?Y6
               case Y6 =>
                refine' af ?Y7 ?Y8 ?Y9
                case Y9=>exact rfl
                case Y7 =>
                 exact az
                case Y8 =>
                 refine' af ?Za ?Zb ?Zc
                 case Zc=>exact rfl
                 case Za =>
                  exact az
                 case Zb =>
                  exact ak
         case e78 =>
          exact aD
        case r77 =>
         refine' ay ?Zd
         case Zd =>
          exact(aC (dR DU hr T.DI T.vH.kp T.DH (af (pv 0) (af (pv 1) (af (pv 2) ak)))))
  refine⟨_,O,t,_,O,ht,O,_,_,O,_,_,O,_,_,O,_,_,O,_,_,O,_,_,O,_,_,O,O,?_⟩
  refine⟨_,O,s,_,O,hs,O,_,_,O,_,_,O,O,?_⟩
  refine⟨_,O,O,_,O,bf (λ(h0:bA w ("within":Str)=true)=>?_) (λ(h0:¬bA w ("within":Str)=true)=>?_)⟩
  ·refine⟨_,O,_,O,_,_,O,O,_,O,bf (λ(h1:jL c f=true)=>?_) (λ(h1:¬jL c f=true)=>?_)⟩
   ·exact⟨_,O,bU (by rw[iu h0];unfold dS;rw[abj h1]) dF k⟩
   refine⟨_,O,_,O,O,_,O,bf (λ(h2:bA (sg c) u=true)=>?_) (λ(h2:¬bA (sg c) u=true)=>?_)⟩
   ·refine⟨(by show 2<=sizeLine;decide),λt1 g1=>⟨_,O,(by show 2<=sizeLine;decide),λt2 g2=>⟨(by show 2<=sizeLine;decide),λl gl=>?_⟩⟩⟩
    have z1:=ah (o:=HO.tup [.str ("behind":Str),.str ("":Str)]) g1
    have z2:=ah (o:=HO.tup [.str ("doubt":Str),.str u]) g2
    have z3:=ah (o:=HO.lst [.ref t1,.ref t2]) gl
    have y1:bD K _ t1 [.str ("behind":Str),.str ("":Str)]:=fE (z2.trans z3) (bD.of ai)
    have y2:bD K _ t2 [.str ("doubt":Str),.str u]:=fE z3 (bD.of ai)
    refine⟨_,O,.inr ⟨b1,O,?_⟩⟩
    cases b1 with
    |true=>exact⟨l,_,_,.ref t2,rfl,rfl,aN.of ai,rfl,ig (by rw[iu h0];unfold dS;rw[abb h1,abj h2];rfl) dF ((z1.trans z2).trans z3) y2 k⟩
    |false=>exact⟨l,_,_,.ref t1,rfl,rfl,aN.of ai,rfl,ig (by rw[iu h0];unfold dS;rw[abb h1,abj h2];rfl) dF ((z1.trans z2).trans z3) y1 k⟩
   refine⟨_,O,O,_,O,bf (λ(h3:bA (sg c) (Str.ofString "\n")=true)=>?_) (λ(h3:¬bA (sg c) (Str.ofString "\n")=true)=>?_)⟩
   ·refine⟨_,O,_,O,bf (λ(h4:(!b2)=true)=>?_) (λ(h4:¬(!b2)=true)=>?_)⟩
    ·exact iO (by rw[iu h0];unfold dS;rw[abb h1,abb h2,abj h3,abj h4]) k
    cases kJ h0
    exact⟨_,O,ig (by rw[iu h0];unfold dS;rw[abb h1,abb h2,abj h3,abb h4]) dz (aG.refl _) hs k⟩
   cases kJ h0
   refine bE ?_
   exact⟨_,O,ig (by rw[iu h0];unfold dS;rw[abb h1,abb h2,abb h3]) dz (aG.refl _) hs k⟩
  have n0:=h0
  clear h0
  refine⟨_,O,O,_,O,bf (λ(h0:bA w ("freed":Str)=true)=>?_) (λ(h0:¬bA w ("freed":Str)=true)=>?_)⟩
  ·refine⟨_,O,O,_,O,bf (λ(h1:bA (sg c) (Str.ofString "\n")=true)=>?_) (λ(h1:¬bA (sg c) (Str.ofString "\n")=true)=>?_)⟩
   ·refine⟨_,O,_,O,bf (λ(h2:(!b2)=true)=>?_) (λ(h2:¬(!b2)=true)=>?_)⟩
    ·exact iO (by rw[qZ h0];unfold iQ;rw[abj h1,abj h2]) k
    refine⟨_,O,(by show 2<=sizeLine;decide),λt1 g1=>⟨(by show 2<=sizeLine;decide),λt2 g2=>⟨(by show 2<=sizeLine;decide),λl gl=>?_⟩⟩⟩
    have z1:=ah (o:=HO.tup [.str ("within":Str),.str u]) g1
    have z2:=ah (o:=HO.tup [.str ("plain":Str),.str ("":Str)]) g2
    have z3:=ah (o:=HO.lst [.ref t1,.ref t2]) gl
    have y1:bD K _ t1 [.str ("within":Str),.str u]:=fE (z2.trans z3) (bD.of ai)
    have y2:bD K _ t2 [.str ("plain":Str),.str ("":Str)]:=fE z3 (bD.of ai)
    refine⟨_,O,O,.inr ⟨bA u ("":Str),O,?_⟩⟩
    have ex:cU p q f b1 b2 b3 b4 w u c=gM u:=by rw[qZ h0];unfold iQ;rw[abj h1,abb h2]
    unfold gM at ex
    cases Uk:bA u ("":Str) with
    |true=>exact⟨l,_,_,.ref t2,rfl,rfl,aN.of ai,rfl,ig (by rw[ex,abj Uk]) dz ((z1.trans z2).trans z3) y2 k⟩
    |false=>exact⟨l,_,_,.ref t1,rfl,rfl,aN.of ai,rfl,ig (by rw[ex,abb (by rw[Uk];decide)]) dz ((z1.trans z2).trans z3) y1 k⟩
   refine bE ?_
   refine⟨_,O,(by show 2<=sizeLine;decide),λt1 g1=>⟨(by show 2<=sizeLine;decide),λt2 g2=>⟨(by show 2<=sizeLine;decide),λl gl=>?_⟩⟩⟩
   have z1:=ah (o:=HO.tup [.str ("within":Str),.str u]) g1
   have z2:=ah (o:=HO.tup [.str ("plain":Str),.str ("":Str)]) g2
   have z3:=ah (o:=HO.lst [.ref t1,.ref t2]) gl
   have y1:bD K _ t1 [.str ("within":Str),.str u]:=fE (z2.trans z3) (bD.of ai)
   have y2:bD K _ t2 [.str ("plain":Str),.str ("":Str)]:=fE z3 (bD.of ai)
   refine⟨_,O,O,.inr ⟨bA u ("":Str),O,?_⟩⟩
   have ex:cU p q f b1 b2 b3 b4 w u c=gM u:=by rw[qZ h0];unfold iQ;rw[abb h1]
   unfold gM at ex
   cases Uk:bA u ("":Str) with
   |true=>exact⟨l,_,_,.ref t2,rfl,rfl,aN.of ai,rfl,ig (by rw[ex,abj Uk]) dz ((z1.trans z2).trans z3) y2 k⟩
   |false=>exact⟨l,_,_,.ref t1,rfl,rfl,aN.of ai,rfl,ig (by rw[ex,abb (by rw[Uk];decide)]) dz ((z1.trans z2).trans z3) y1 k⟩
  have n1:=h0
  clear h0
  refine⟨_,O,O,_,O,bf (λ(h0:bA w ("doubt":Str)=true)=>?_) (λ(h0:¬bA w ("doubt":Str)=true)=>?_)⟩
  ·refine⟨_,O,_,O,O,_,O,bf (λ(h1:bA (sg c) u=true)=>?_) (λ(h1:¬bA (sg c) u=true)=>?_)⟩
   ·exact⟨_,O,bU (by rw[jw h0];unfold iP;rw[abj h1]) dz k⟩
   refine⟨_,O,O,_,O,xX h0 (fD ?_)⟩
   refine⟨_,O,O,_,O,bf (λ(g1:bA (sg c) (Str.ofString "\n")=true)=>?_) (λ(g1:¬bA (sg c) (Str.ofString "\n")=true)=>?_)⟩
   ·exact bU (by rw[jw h0];unfold iP cz;rw[abb h1,abj g1]) qy k
   refine⟨_,O,_,O,_,_,O,O,_,O,bf (λ(g2:jL c p=true)=>?_) (λ(g2:¬jL c p=true)=>?_)⟩
   ·exact bU (by rw[jw h0];unfold iP cz;rw[abb h1,abb g1,abj g2]) lX k
   refine⟨_,O,_,O,bf (λ(g3:b3=true)=>?_) (λ(g3:¬b3=true)=>?_)⟩
   ·refine⟨_,O,O,_,O,bf (λ(g4:bA (sg c) (" ":Str)=true)=>?_) (λ(g4:¬bA (sg c) (" ":Str)=true)=>?_)⟩
    ·exact bU (by rw[jw h0];unfold iP cz;rw[abb h1,abb g1,abb g2,abj g4,abj g3]) dF k
    exact iO (by rw[jw h0];unfold iP cz;rw[abb h1,abb g1,abb g2,abb g4]) k
   refine bE ?_
   exact iO (by rw[jw h0];unfold iP cz;rw[abb h1,abb g1,abb g2];by_cases g4:bA (sg c) (" ":Str)=true<;>simp only[g4,g3,acz,acH,ab4]) k
  refine bE ?_
  refine⟨_,O,O,_,O,xY (gu h0) ?_⟩
  refine⟨_,O,O,_,O,bf (λ(h9:bA w ("behind":Str)=true)=>?_) (λ(h9:¬bA w ("behind":Str)=true)=>?_)⟩
  ·refine⟨_,O,O,_,O,bf (λ(g1:bA (sg c) (Str.ofString "\n")=true)=>?_) (λ(g1:¬bA (sg c) (Str.ofString "\n")=true)=>?_)⟩
   ·exact bU (by rw[jf h9];unfold cz;rw[abj g1]) qy k
   refine⟨_,O,_,O,_,_,O,O,_,O,bf (λ(g2:jL c p=true)=>?_) (λ(g2:¬jL c p=true)=>?_)⟩
   ·exact bU (by rw[jf h9];unfold cz;rw[abb g1,abj g2]) lX k
   refine⟨_,O,_,O,bf (λ(g3:b3=true)=>?_) (λ(g3:¬b3=true)=>?_)⟩
   ·refine⟨_,O,O,_,O,bf (λ(g4:bA (sg c) (" ":Str)=true)=>?_) (λ(g4:¬bA (sg c) (" ":Str)=true)=>?_)⟩
    ·exact bU (by rw[jf h9];unfold cz;rw[abb g1,abb g2,abj g4,abj g3]) dF k
    exact iO (by rw[jf h9];unfold cz;rw[abb g1,abb g2,abb g4]) k
   refine bE ?_
   exact iO (by rw[jf h9];unfold cz;rw[abb g1,abb g2];by_cases g4:bA (sg c) (" ":Str)=true<;>simp only[g4,g3,acz,acH,ab4]) k
  refine⟨_,O,_,O,_,O,t,s,w,u,c,p,q,f,b1,b2,b3,b4,O,ht,hs,λv H2 s2 r=>k v H2 s2 ?_⟩
  rw[Gq (gu n0) (gu n1) (gu h0) (gu h9)]
  exact r
inductive oB(K:W.Frag)(vs:List V)(H:Hp)(Q:VK)(E_:XK):Prop where
 |mk (t:Addr) (z:Str) (p q f:Str) (b1 b2 b3 b4:Bool):(vs=[.ref t,.str z])->(H t=some (.tup (pI p q f b1 b2 b3 b4)))->(z.length<=3000)->(∀(tw lk:Addr) H',H' tw=some (.tup [.ref lk,.str (zq (runM p q f b1 b2 b3 b4 ("row":Str) ("":Str) z.cps.toList))])->H lk=none->H' lk=some (.lst ((runM p q f b1 b2 b3 b4 ("row":Str) ("":Str) z.cps.toList).1.map V.str))->aG H H'->Q (.ref tw) H')->oB K vs H Q E_
theorem yK:zzz T eH 3 38 ["_law_told_here","_law_text_here"] (oB K):=by
 have DV:=Ca T
 refine T.pQ.ok cW 'g' 'a'
 ·obtain⟨t,z,p,q,f,b1,b2,b3,b4,rfl,_⟩:=h;rfl
 ·have hu:=bx hr
  have gg:=hr.aV
  obtain⟨t,z,p,q,f,b1,b2,b3,b4,rfl,ht,hz2,k⟩:=h
  refine'⟨_,?aa,?bb⟩
  case aa =>
   refine' aq ?s0 ?r0
   case s0 =>
    refine' dj 2 cW.nd ?v1
    case v1 =>
     refine' aB ?a2
     case a2 =>
      refine' af ?x3 ?y3 ?z3
      case z3=>exact rfl
      case x3 =>
       exact az
      case y3 =>
       refine' af ?x4 ?y4 ?z4
       case z4=>exact rfl
       case x4 =>
        exact az
       case y4 =>
        exact ak
   case r0 =>
    refine' aq ?s5 ?r5
    case s5 =>
     refine' dj 3 cW.nd ?v6
     case v6 =>
      refine' aW ?a7
      case a7 =>
       exact ak
    case r5 =>
     refine' aq ?s8 ?r8
     case s8 =>
      exact(gc abZ rfl (fN rfl T.fH (af (gv d9 T.bB (af (pv 1) ak)) ak)) (e7 4 cW.nd)
     (aq (dU (dR DV hr T.DK T.vI.kp T.DJ (af (pv 0) (af (pv 2) (af (Aq AZ (pv 1) (pv 4) (λ_ _=>rfl)) ak)))) (eZ K rfl 2 rfl (aS (e7 5 cW.nd) (aS (e7 6 cW.nd) eY))))
     (aq (aO (cC aU (pv 5) az) (ay (aC (aB (af (pv 3) (af (pv 6) ak))))) aD)
     (aq (dg (dw K rfl abE abH abI bI (pv 3) (af (pv 5) ak)))
     (ay (dj 2 cW.nd (pv 6)))))))
     case r8 =>
      refine' aq ?s9 ?r9
      case s9 =>
       refine' aO ?Ze ?Ul ?Zf
       case Ze=>exact(cC (JS K rfl gg) (pv 2) (aB (af az (af az ak))))
       case Ul =>
        refine' ay ?Tj
        case Tj =>
         refine' aC ?Um
         case Um =>
          refine' aB ?Uo
          case Uo =>
           refine' af ?Up ?Uq ?Ur
           case Ur=>exact rfl
           case Up =>
            exact(pv 3)
           case Uq =>
            refine' af ?K0 ?K1 ?K2
            case K2=>exact rfl
            case K0 =>
             exact az
            case K1 =>
             exact ak
       case Zf =>
        exact aD
      case r9 =>
       refine' ay ?Yi
       case Yi =>
        refine' aC ?Yj
        case Yj =>
         refine' aB ?Qh
         case Qh =>
          refine' af ?Nd ?Nf ?Ng
          case Ng=>exact rfl
          case Nd =>
           exact(pv 3)
          case Nf =>
           refine' af ?Tp ?Tq ?Tr
           case Tr=>exact rfl
           case Tp =>
            exact az
           case Tq =>
            exact ak
  refine⟨by decide,λs0 hs0=>?_⟩
  have z0:=ah (o:=HO.tup [.str ("row":Str),.str ("":Str)]) hs0
  refine⟨by decide,λlk hlk=>?_⟩
  have z1:=ah (o:=HO.lst []) hlk
  have GS:H lk=none:=z0.free hlk
  have hzs:z.length<=sizeLine:=abv hz2 'c'
  refine⟨_,O,z,O,hzs,_,O,by omega,by omega,?_⟩
  refine je (λi σ H4=>aG H H4/\∃(w u:Str)(s:Addr)(ks:List Str)(v1 v2 v3:Option V),σ=[some (.ref t),some (.str z),some (.ref s),some (.ref lk),v1,v2,v3]/\H4 lk=some (.lst (ks.map V.str))/\bD K H4 s [.str w,.str u]/\ks.length=i/\runM p q f b1 b2 b3 b4 ("row":Str) ("":Str) z.cps.toList=Dh ks (runM p q f b1 b2 b3 b4 w u (z.cps.toList.drop i))) ⟨z0.trans z1,_,_,s0,[],_,_,_,rfl,ai,bD.of (z1 _ _ ai),rfl,rfl⟩ ?_ ?_
  ·rintro i σ H4 hi ⟨s4,w,u,s,ks,v1,v2,v3,rfl,h4,hs,N5,er⟩
   have hil:i<z.length:=by simpa using hi
   have zJ:z.cps.toList.length=z.length:=by rw[abA];rfl
   obtain⟨c,hc⟩:∃c,z.cps.toList[i]?=some c:=⟨_,abk 'b'⟩
   rw[drop_cons hc]at er
   have hac:fu z.cps.toList (0+(i:Int))=some c:=by rw[Int.zero_add];exact bh hc
   refine⟨_,O,_,O,_,O,_,O,z,_,c,O,O,hzs,hac,t,s,w,u,c,p,q,f,b1,b2,b3,b4,O,bD.of (s4 _ _ ht),hs,λv H5 s5 r=>?_⟩
   have h5:=s5 _ _ h4
   cases Na:cU p q f b1 b2 b3 b4 w u c with
   |go kd w3 u3 =>
    rw[Na]at r
    obtain⟨hk,a,b,rfl,ha,hb⟩:=r
    refine⟨a,_,O,ha,O,_,_,O,_,_,O,O,?_⟩
    refine⟨_,O,O,_,O,xY hk ?_⟩
    refine⟨_,O,.inl ⟨O,_,aN.of h5⟩,_,O,lk,_,_,O,O,h5,?_,?_⟩
    ·rw[aa9];exact abr (show ks.length<=3000 by omega) 'c'
    refine⟨_,O,aL GS (s4.trans s5),w3,u3,b,ks++[kd],_,_,_,O,?_,Bk h5 hb,by rw[abq,N5];rfl,er.trans (Ku Na)⟩
    rw[abw];exact ai
   |tQ e =>
    rw[Na]at r
    obtain⟨a,rfl,ha⟩:=r
    refine⟨a,_,O,ha,O,_,_,O,_,_,O,O,?_⟩
    refine⟨_,O,O,_,O,xX (cH _) ?_⟩
    refine⟨_,O,_,O,(by show 2<=sizeLine;decide),λtw htw=>?_⟩
    have st:=ah (o:=HO.tup [.ref lk,.str e]) htw
    rw[Gr Na]at er
    refine k tw lk _ ?_ GS ?_ ((s4.trans s5).trans st)
    ·rw[er];exact ai
    ·rw[er];exact st _ _ h5
  ·rintro σ H4 ⟨s4,w,u,s,ks,v1,v2,v3,rfl,h4,hs,N5,er⟩
   have ez:((z.length:Int)).toNat=z.cps.toList.length:=by rw[abA];exact Int.toNat_natCast _
   rw[ez,List.drop_length,Gs]at er
   refine⟨_,O,(by show 2<=sizeLine;decide),λm hm=>?_⟩
   have y2:=ah (o:=HO.tup [.str ("row":Str),.str ("":Str)]) hm
   refine⟨s,m,_,_,O,O,fE y2 hs,bD.of ai,O,O,_,O,bf (λ(h1:vD w u=true)=>?_) (λ(h1:¬vD w u=true)=>?_)⟩
   ·refine⟨_,O,(by show 2<=sizeLine;decide),λtw htw=>?_⟩
    have st:=ah (o:=HO.tup [.ref lk,.str ("":Str)]) htw
    refine k tw lk _ ?_ GS ?_ ((s4.trans y2).trans st)
    ·rw[er,show zq (ks,w,u,none)=("":Str) from abj h1];exact ai
    ·rw[er];exact(y2.trans st) _ _ h4
   ·refine⟨_,O,(by show 2<=sizeLine;decide),λtw htw=>?_⟩
    have st:=ah (o:=HO.tup [.ref lk,.str ("cut":Str)]) htw
    refine k tw lk _ ?_ GS ?_ ((s4.trans y2).trans st)
    ·rw[er,show zq (ks,w,u,none)=("cut":Str) from abb h1];exact ai
    ·rw[er];exact(y2.trans st) _ _ h4
inductive qa(K:W.Frag)(vs:List V)(H:Hp)(Q:VK)(E_:XK):Prop where
 |mk (z:Str) (lk:Addr) (ks:List Str):(vs=[.str z,.ref lk])->(H lk=some (.lst (ks.map V.str)))->(z.length<=2000)->(ks.length<=z.length)->(∀v H',WX H H' v (EM z ks)->aG H H'->Q v H')->qa K vs H Q E_
theorem zS:zzz T eH 1 39 ["_law_text_here","_law_kinds"] (qa K):=by
 refine T.rT.ok f6 'g' 'a'
 ·obtain⟨z,lk,ks,rfl,_⟩:=h;rfl
 ·have hu:=bx hr
  obtain⟨z,lk,ks,rfl,hk,hz,hkz,k⟩:=h
  refine⟨_,(aq (dj 2 f6.nd (aW ak))
   (aq (dj 3 f6.nd (aW (af az ak)))
   (aq (gc abZ rfl (fN rfl T.fH (af (gv (aK K rfl) T.bB (af (pv 1) ak)) ak)) (e7 4 f6.nd)
   (aq (aO (cC aU (fM K (pv 1) (pv 4)) az) (ay (dU (aF fq (fM K (pv 3) (vj nA au)) (Aq AZ (pv 0) (pv 4) (λ_ _=>rfl))) (lH (pv 3) (vj nA au) set_list))) aD)
   (aq (aO (cC aU (fM K (pv 1) (pv 4)) az) (ay (dg (dw K rfl abE abH abI bI (pv 3) (af az ak)))) aD)
   (ay (aO (cC aU (fM K (pv 1) (pv 4)) az) (aq (dg (dw K rfl abE abH abI bI (pv 2) (af (pv 3) ak)))
   (ay (dj 3 f6.nd (aW (af az ak))))) aD)))))
   (ay (aC (pv 2)))))),?_⟩
  refine⟨by decide,λlt hlt=>?_⟩
  have s1:=ah (o:=HO.lst []) hlt
  refine⟨(by show 1<=sizeLine;decide),λr0 hr0=>?_⟩
  have s2:=ah (o:=HO.lst [.str ("":Str)]) hr0
  have a1:(upd (upd H lt (.lst [])) r0 (.lst [.str ("":Str)])) lt=some (.lst []):=s2 _ _ ai
  have n0:r0≠lt:=λq=>by rw[q,ai]at hr0;cases hr0
  have fr:=s1.free hr0
  have s12:=s1.trans s2
  have hzs:z.length<=sizeLine:=abv hz 'c'
  have ekl:(ks.map V.str).length=ks.length:=aa9 _
  refine⟨_,O,lk,_,O,.inl (aN.of (s12 _ _ hk)),_,O,by omega,by omega,?_⟩
  refine je (λi σ H2=>aG H H2/\∃(rr:Addr)(es:List V)(rs:List Str)(c:Str)(v:Option V),σ=[some (.str z),some (.ref lk),some (.ref lt),some (.ref rr),v]/\H rr=none/\rr≠lt/\H2 lt=some (.lst es)/\H2 rr=some (.lst (rs.map V.str++[.str c]))/\es.length<=i/\rs.length<=i/\c.length<=i/\V.ref lt∉es/\V.ref rr∉es/\es.Nodup/\∃rows,jP H H2 es rows/\wA Kz (z.cps.toList.take i) (ks.take i)=⟨rows,rs,c⟩) ⟨s12,r0,[],[],("":Str),_,rfl,fr,n0,a1,ai,abh _,abh _,by rw[EJ];exact abh _,by simp,by simp,List.nodup_nil,[],.nil,rfl⟩ ?_ ?_
  ·rintro i σ H2 hi ⟨s3,rr,es,rs,c,v,rfl,Iw,nr,b1,b2,l1,l2,l3,n1,n2,nd,rows,rw',hg⟩
   have hi:i<ks.length:=by rw[←ekl];simpa using hi
   have zJ:z.cps.toList.length=z.length:=by rw[abA];rfl
   obtain⟨kd,hkd⟩:∃kd,ks[i]?=some kd:=⟨_,abk hi⟩
   obtain⟨d,hd⟩:∃d,z.cps.toList[i]?=some d:=⟨_,abk 'b'⟩
   have BU:=ug Kz z.cps.toList ks i d kd hd hkd
   rw[hg]at BU
   have hat:fu (ks.map V.str) (0+(i:Int))=some (.str kd):=by rw[Int.zero_add];exact bh (by rw[abM,hkd];rfl)
   have hac:fu z.cps.toList (0+(i:Int))=some d:=by rw[Int.zero_add];exact bh hd
   have hk3:aN K H2 lk (ks.map V.str):=aN.of (s3 _ _ hk)
   refine cR (t:=qQ _ _ _) (λσ' H'=>aG H H'/\∃(c1:Str),σ'=[some (.str z),some (.ref lk),some (.ref lt),some (.ref rr),some (.int (0+(i:Int)))]/\H' lt=some (.lst es)/\H' rr=some (.lst (rs.map V.str++[.str c1]))/\jP H H' es rows/\c1.length<=i+1/\((bA kd ("put":Str)=true/\c1=c++sg d)\/(bA kd ("put":Str)=false/\c1=c))) ?_ (λgo=>?_)
   rotate_left
   ·refine⟨_,O,_,O,lk,_,_,.str kd,O,O,hk3,hat,O,_,O,bf (λ(p1:bA kd ("put":Str)=true)=>?_) (λ(p1:¬bA kd ("put":Str)=true)=>go _ _ ⟨s3,c,O,b1,b2,rw',by omega,.inr ⟨gu p1,O⟩⟩)⟩
    refine⟨_,O,_,O,rr,_,_,_,O,O,aN.of b2,JC _ _,_,O,_,O,z,_,d,O,O,hzs,hac,_,_,O,O,abv (show c.length+1<=2001 by omega) 'c',?_⟩
    refine⟨_,O,_,O,rr,_,_,rs.length,O,O,b2,?_,go _ _ ⟨aL Iw s3,c++sg d,O,(aH (acu nr)).trans b1,?_,jP.but n2 rw',by rw[lW];show c.length+1<=_;omega,.inl ⟨p1,O⟩⟩⟩
    ·unfold IZ
     rw[abq,aa9,abb 'c',abj (by show -((rs.length+1:Nat):Int)<=-1;omega)]
     show some ((-1+((rs.length+1:Nat):Int)).toNat)=_
     congr 1
     omega
    ·rw[ai,List.set_append_right _ _ (by rw[aa9];exact abh _),aa9,Nat.sub_self]
     rfl
   rintro σ' H3 ⟨s4,c1,rfl,e1,e2,rw3,l4,h1⟩
   have hk4:aN K H3 lk (ks.map V.str):=aN.of (s4 _ _ hk)
   refine cR (t:=qQ _ _ _) (λσ' H'=>aG H H'/\∃(HP:List Str)(c2:Str),σ'=[some (.str z),some (.ref lk),some (.ref lt),some (.ref rr),some (.int (0+(i:Int)))]/\H' lt=some (.lst es)/\H' rr=some (.lst (HP.map V.str++[.str c2]))/\jP H H' es rows/\HP.length<=i+1/\c2.length<=i+1/\((bA kd ("part":Str)=true/\HP=rs++[c1]/\c2=("":Str))\/(bA kd ("part":Str)=false/\HP=rs/\c2=c1))) ?_ (λgo=>?_)
   rotate_left
   ·refine⟨_,O,_,O,lk,_,_,.str kd,O,O,hk4,hat,O,_,O,bf (λ(p2:bA kd ("part":Str)=true)=>?_) (λ(p2:¬bA kd ("part":Str)=true)=>go _ _ ⟨s4,rs,c1,O,e1,e2,rw3,by omega,l4,.inr ⟨gu p2,O,O⟩⟩)⟩
    refine⟨_,O,.inl ⟨O,_,aN.of e2⟩,rr,_,_,O,O,e2,?_,go _ _ ⟨aL Iw s4,rs++[c1],("":Str),O,(aH (acu nr)).trans e1,?_,jP.but n2 rw3,by rw[abq];show rs.length+1<=_;omega,by rw[EJ];omega,.inl ⟨p2,O,O⟩⟩⟩
    ·rw[abq,aa9];exact abr (show rs.length+1<=2001 by omega) 'c'
    ·rw[ai,abw];rfl
   rintro σ' H4 ⟨s5,HP,c2,rfl,d1,d2,rw4,l5,l6,h2⟩
   have hk5:aN K H4 lk (ks.map V.str):=aN.of (s5 _ _ hk)
   rw[WY h1 h2]at BU
   refine⟨_,O,_,O,lk,_,_,.str kd,O,O,hk5,hat,O,_,O,bf (λ(p3:bA kd ("end":Str)=true)=>?_) (λ(p3:¬bA kd ("end":Str)=true)=>?_)⟩
   ·rw[abj p3]at BU
    refine⟨_,O,.inl ⟨O,_,aN.of d1⟩,_,O,lt,es,_,O,O,d1,abr (show es.length<=2000 by omega) 'c',?_⟩
    have s6:aG H (upd H4 lt (.lst (es++[.ref rr]))):=aL hlt s5
    have e1:(upd H4 lt (.lst (es++[.ref rr]))) lt=some (.lst (es++[.ref rr])):=ai
    have g2:(upd H4 lt (.lst (es++[.ref rr]))) rr=some (.lst ((HP++[c2]).map V.str)):=by rw[aH nr,d2,abw];rfl
    have nl:V.ref lt∉es++[V.ref rr]:=λe=>by
     rcases abG.mp e with e|e
     ·exact n1 e
     ·exact nr (V.ref.inj (abf.mp e)).symm
    have Zg:jP H (upd H4 lt (.lst (es++[.ref rr]))) (es++[.ref rr]) (rows++[HP++[c2]]):=jP.app (jP.but n1 rw4) (.cons ⟨rr,rfl,Iw,g2⟩ .nil)
    have nd6:(es++[V.ref rr]).Nodup:=acI.mpr ⟨nd,by simp,λx hx y hy e=>n2 (by rw[abf.mp hy]at e;exact e▸hx)⟩
    generalize upd H4 lt (.lst (es++[.ref rr]))=H5 at s6 e1 Zg g2⊢
    refine⟨(by show 1<=sizeLine;decide),λr2 hr2=>?_⟩
    have sn:=ah (o:=HO.lst [.str ("":Str)]) hr2
    refine⟨s6.trans sn,r2,_,[],("":Str),_,O,s6.free hr2,λq=>?_,sn _ _ e1,ai,by rw[abq];show es.length+1<=_;omega,abW _,by rw[EJ];omega,nl,λq=>?_,nd6,_,jP.mono sn Zg,BU⟩
    ·rw[q,e1]at hr2;cases hr2
    ·obtain⟨_,ys,hys⟩:=Zg.has q
     rw[hys]at hr2;cases hr2
   ·rw[abb p3]at BU
    exact⟨s5,rr,es,HP,c2,_,O,Iw,nr,d1,d2,by omega,l5,l6,n1,n2,nd,rows,rw4,BU⟩
  ·rintro σ H2 ⟨s3,rr,es,rs,c,v,rfl,Iw,nr,b1,b2,l1,l2,l3,n1,n2,nd,rows,rw',hg⟩
   refine⟨_,O,k _ H2 ⟨lt,es,O,hlt,b1,n1,nd,?_⟩ s3⟩
   have e:((ks.map V.str).length:Int).toNat=min z.cps.toList.length ks.length:=by
    have zJ:z.cps.toList.length=z.length:=by rw[abA];rfl
    rw[Int.toNat_natCast,ekl,zJ];omega
   rw[e,yb]at hg
   have:EM z ks=rows:=by unfold EM;rw[hg]
   rw[this]
   exact rw'
inductive vU(K:W.Frag)(vs:List V)(H:Hp)(Q:VK)(E_:XK):Prop where
 |mk (t:Addr) (n:Int) (x:iK):(vs=[.ref t,.int n])->(H t=some (.tup (lY x)))->(AE x)->(∀t2 (y:iK) H',AE y->H' t2=some (.tup (lY y))->aG H H'->Q (.ref t2) H')->vU K vs H Q E_
theorem DW:zzz T eH 1 40 ["_law_told_here","_law_x"] (vU K):=by
 refine T.yz.ok nP 'g' 'a'
 ·obtain⟨t,n,x,rfl,_⟩:=h;rfl
 ·have hu:=bx hr
  obtain⟨t,n,x,rfl,ht,g,k⟩:=h
  refine⟨_,(aq (dj 2 nP.nd (aF bq (pv 1) au))
   (aq (dj 3 nP.nd (EG (cy K rfl) T.fh (af (pv 0) ak)))
   (aq (aO (cC vp (pv 2) au) (ay (dU (HF (fM K (pv 3) (pv 2)) (vj nA au)) (lH (pv 3) (pv 2) set_list))) aD)
   (aq (aO (PW.pt (cI (cC aU (pv 2) au) (cj (cC aU (fM K (pv 3) au) az)))) (ay (dU (Eg (fM K (pv 3) au)) (lH (pv 3) au set_list))) aD)
   (aq (aO (PW.pt (cI (cC aU (pv 2) au) (cj (cC aU (aF fq (fM K (pv 3) au) (fM K (pv 3) au)) az)))) (ay (dU (Eg (fM K (pv 3) au)) (lH (pv 3) au set_list))) aD)
   (aq (aO (PW.pt (cI (cC qR (pv 2) au) (cj (cC vp (pv 2) au)))) (ay (dU (Eg (fM K (pv 3) (aF tX (pv 2) au))) (lH (pv 3) (aF tX (pv 2) au) set_list))) aD)
   (aq (aO (cC aU (pv 2) au) (ay (dU (cG JT (fM K (pv 3) au) fO (cJ au)) (lH (pv 3) au set_list))) aD)
   (aq (aO (cC aU (pv 2) au) (ay (dU (cG JT (fM K (pv 3) au) fO (cJ au)) (lH (pv 3) au set_list))) aD)
   (ay (aC (EG (jj K rfl) T.n8 (af (pv 3) ak)))))))))))),?_⟩
  refine⟨_,O,_,_,O,O,(by show(0:Int)<12;decide),?_⟩
  have w0:=abN n (show(12:Int)≠0 by decide)
  have w1:=abL n (show(0:Int)<12 by decide)
  dsimp only[bQ]
  generalize n % 12=w at w0 w1⊢
  refine⟨_,O,t,_,O,.inr (bD.of ht),λl hl=>?_⟩
  have s1:=ah (o:=HO.lst (lY x)) hl
  have h1:(upd H l (.lst (lY x))) l=some (.lst (lY x)):=ai
  generalize upd H l (.lst (lY x))=H1 at s1 h1⊢
  dsimp only[bQ]
  refine cR (t:=qQ _ _ _) (λσ' H'=>aG H H'/\σ'=[some (.ref t),some (.int n),some (.int w),some (.ref l)]/\∃y:iK,AE y/\H' l=some (.lst (lY y))) ?_ (λgo=>?_)
  rotate_left
  ·refine⟨_,O,_,_,O,O,_,O,bf (λh4=>?_) (λ_=>go _ _ ⟨s1,O,x,g,h1⟩)⟩
   have h4:w<3:=abT h4
   have r1:=Bl x.1;have r2:=Bl x.2.1;have r3:=Bl x.2.2.1
   have a1:=g.p1;have a2:=g.p3;have a3:=g.q2;have a4:=g.f2
   rcases(by omega:w=0\/w=1\/w=2) with rfl|rfl|rfl
   ·exact⟨_,O,_,O,l,_,_,_,O,O,aN.of h1,O,_,O,_,O,O,abv a2 'c',_,O,_,O,l,_,_,0,O,O,h1,O,go _ _ ⟨aL hl s1,O,(qX x.1,x.2),⟨EK g.gp,g.gq,g.gf,by show 1<=(qX x.1).length;omega,by show(qX x.1).length<=3;omega,a3,a4⟩,ai⟩⟩
   ·exact⟨_,O,_,O,l,_,_,_,O,O,aN.of h1,O,_,O,_,O,O,abv a3 'c',_,O,_,O,l,_,_,1,O,O,h1,O,go _ _ ⟨aL hl s1,O,(x.1,qX x.2.1,x.2.2),⟨g.gp,EK g.gq,g.gf,a1,a2,by show(qX x.2.1).length<=2;omega,a4⟩,ai⟩⟩
   ·exact⟨_,O,_,O,l,_,_,_,O,O,aN.of h1,O,_,O,_,O,O,abv a4 'c',_,O,_,O,l,_,_,2,O,O,h1,O,go _ _ ⟨aL hl s1,O,(x.1,x.2.1,qX x.2.2.1,x.2.2.2),⟨g.gp,g.gq,EK g.gf,a1,a2,a3,by show(qX x.2.2.1).length<=2;omega⟩,ai⟩⟩
  rintro σ' H2 ⟨s2,rfl,x2,g2,h2⟩
  refine cR (t:=qQ _ _ _) (λσ' H'=>aG H H'/\σ'=[some (.ref t),some (.int n),some (.int w),some (.ref l)]/\∃y:iK,AE y/\H' l=some (.lst (lY y))) ?_ (λgo=>?_)
  rotate_left
  ·have go2:=λy (gy:AE y)=>go _ _ ⟨aL (o:=HO.lst (lY y)) hl s2,rfl,y,gy,ai⟩
   have Od:=go _ _ ⟨s2,rfl,x2,g2,h2⟩
   by_cases h4:w=3
   ·refine⟨_,O,O,_,O,QT h4 (⟨_,O,_,_,_,_,O,O,aN.of h2,O,O,_,O,R4 (λ_=>?_) (λ_=>Od)⟩)⟩
    exact⟨_,O,_,_,_,_,O,O,aN.of h2,O,_,O,_,O,_,_,_,_,O,O,h2,O,go2 (x2.1,x2.2.1,x2.2.2.1,⟨!x2.2.2.2.a,x2.2.2.2.b,x2.2.2.2.c,x2.2.2.2.d⟩) g2⟩
   ·exact⟨_,O,O,_,O,EB h4 (bE Od)⟩
  rintro σ' H3 ⟨s3,rfl,x3,g3,h3⟩
  refine cR (t:=qQ _ _ _) (λσ' H'=>aG H H'/\σ'=[some (.ref t),some (.int n),some (.int w),some (.ref l)]/\∃y:iK,AE y/\H' l=some (.lst (lY y))) ?_ (λgo=>?_)
  rotate_left
  ·have go2:=λy (gy:AE y)=>go _ _ ⟨aL (o:=HO.lst (lY y)) hl s3,rfl,y,gy,ai⟩
   have Od:=go _ _ ⟨s3,rfl,x3,g3,h3⟩
   have d3:=g3.q2;have d4:=g3.f2
   by_cases h4:w=4
   ·refine⟨_,O,O,_,O,QT h4 (⟨_,O,_,_,_,_,O,O,aN.of h3,O,_,O,_,_,_,_,O,O,aN.of h3,O,_,_,O,O,abv (show x3.2.1.length+x3.2.2.1.length<=100 by omega) 'c',O,_,O,R4 (λ_=>?_) (λ_=>Od)⟩)⟩
    exact⟨_,O,_,_,_,_,O,O,aN.of h3,O,_,O,_,O,_,_,_,_,O,O,h3,O,go2 (x3.1,x3.2.1,x3.2.2.1,⟨x3.2.2.2.a,!x3.2.2.2.b,x3.2.2.2.c,x3.2.2.2.d⟩) g3⟩
   ·exact⟨_,O,O,_,O,EB h4 (bE Od)⟩
  rintro σ' H4 ⟨s4,rfl,x4,g4,h4⟩
  refine cR (t:=qQ _ _ _) (λσ' H'=>aG H H'/\σ'=[some (.ref t),some (.int n),some (.int w),some (.ref l)]/\∃y:iK,AE y/\H' l=some (.lst (lY y))) ?_ (λgo=>?_)
  rotate_left
  ·have go2:=λy (gy:AE y)=>go _ _ ⟨aL (o:=HO.lst (lY y)) hl s4,rfl,y,gy,ai⟩
   have Od:=go _ _ ⟨s4,rfl,x4,g4,h4⟩
   by_cases h5:4<w
   ·by_cases h6:w<9
    ·rcases(by omega:w=5\/w=6\/w=7\/w=8) with rfl|rfl|rfl|rfl
     ·exact⟨_,O,_,_,O,O,_,O,xB (by decide +kernel) (⟨_,O,_,_,O,O,_,O,xB (by decide +kernel) (⟨_,O,_,O,_,_,O,O,_,_,_,_,O,O,aN.of h4,O,_,O,_,O,_,O,_,_,O,O,_,_,_,_,O,O,h4,O,go2 (x4.1,x4.2.1,x4.2.2.1,⟨!x4.2.2.2.a,x4.2.2.2.b,x4.2.2.2.c,x4.2.2.2.d⟩) g4⟩)⟩)⟩
     ·exact⟨_,O,_,_,O,O,_,O,xB (by decide +kernel) (⟨_,O,_,_,O,O,_,O,xB (by decide +kernel) (⟨_,O,_,O,_,_,O,O,_,_,_,_,O,O,aN.of h4,O,_,O,_,O,_,O,_,_,O,O,_,_,_,_,O,O,h4,O,go2 (x4.1,x4.2.1,x4.2.2.1,⟨x4.2.2.2.a,!x4.2.2.2.b,x4.2.2.2.c,x4.2.2.2.d⟩) g4⟩)⟩)⟩
     ·exact⟨_,O,_,_,O,O,_,O,xB (by decide +kernel) (⟨_,O,_,_,O,O,_,O,xB (by decide +kernel) (⟨_,O,_,O,_,_,O,O,_,_,_,_,O,O,aN.of h4,O,_,O,_,O,_,O,_,_,O,O,_,_,_,_,O,O,h4,O,go2 (x4.1,x4.2.1,x4.2.2.1,⟨x4.2.2.2.a,x4.2.2.2.b,!x4.2.2.2.c,x4.2.2.2.d⟩) g4⟩)⟩)⟩
     ·exact⟨_,O,_,_,O,O,_,O,xB (by decide +kernel) (⟨_,O,_,_,O,O,_,O,xB (by decide +kernel) (⟨_,O,_,O,_,_,O,O,_,_,_,_,O,O,aN.of h4,O,_,O,_,O,_,O,_,_,O,O,_,_,_,_,O,O,h4,O,go2 (x4.1,x4.2.1,x4.2.2.1,⟨x4.2.2.2.a,x4.2.2.2.b,x4.2.2.2.c,!x4.2.2.2.d⟩) g4⟩)⟩)⟩
    ·exact⟨_,O,_,_,O,O,_,O,xB h5 (⟨_,O,_,_,O,O,_,O,jk h6 Od⟩)⟩
   ·exact⟨_,O,_,_,O,O,_,O,jk h5 (bE Od)⟩
  rintro σ' H5 ⟨s5,rfl,x5,g5,h5⟩
  have d1:=g5.p1;have d2:=g5.p3;have d3:=g5.q2;have d4:=g5.f2
  refine cR (t:=qQ _ _ _) (λσ' H'=>aG H H'/\σ'=[some (.ref t),some (.int n),some (.int w),some (.ref l)]/\∃y:iK,AE y/\H' l=some (.lst (lY y))) ?_ (λgo=>?_)
  rotate_left
  ·refine⟨_,O,O,_,O,bf (λ_=>?_) (λ_=>go _ _ ⟨s5,O,x5,g5,h5⟩)⟩
   have c1:=xZ (z:=x5.2.1) (n:=1) 'c'
   exact⟨_,O,l,_,_,_,O,O,aN.of h5,O,_,O,_,O,abv d3 'c',_,O,l,_,_,2,O,O,h5,O,go _ _ ⟨aL hl s5,O,(x5.1,x5.2.1,Txt.slice x5.2.1 none (some 1),x5.2.2.2),⟨g5.gp,g5.gq,Dj g5.gq,d1,d2,d3,by show(Txt.slice x5.2.1 none (some 1)).length<=2;omega⟩,ai⟩⟩
  rintro σ' H6 ⟨s6,rfl,x6,g6,h6⟩
  have d1:=g6.p1;have d2:=g6.p3;have d3:=g6.q2;have d4:=g6.f2
  refine cR (t:=qQ _ _ _) (λσ' H'=>aG H H'/\σ'=[some (.ref t),some (.int n),some (.int w),some (.ref l)]/\∃y:iK,AE y/\H' l=some (.lst (lY y))) ?_ (λgo=>?_)
  rotate_left
  ·refine⟨_,O,O,_,O,bf (λ_=>?_) (λ_=>go _ _ ⟨s6,O,x6,g6,h6⟩)⟩
   have c1:=xZ (z:=x6.2.1) (n:=1) 'c'
   exact⟨_,O,l,_,_,_,O,O,aN.of h6,O,_,O,_,O,abv d3 'c',_,O,l,_,_,1,O,O,h6,O,go _ _ ⟨aL hl s6,O,(x6.1,Txt.slice x6.2.1 none (some 1),x6.2.2),⟨g6.gp,Dj g6.gq,g6.gf,d1,d2,by show(Txt.slice x6.2.1 none (some 1)).length<=2;omega,d4⟩,ai⟩⟩
  rintro σ' H7 ⟨s7,rfl,x7,g7,h7⟩
  exact⟨_,O,l,_,O,.inl ⟨aN.of h7,λt2 GU=>k t2 x7 _ g7 ai (s7.trans (ah GU))⟩⟩
inductive qb(K:W.Frag)(vs:List V)(H:Hp)(Q:VK)(E_:XK):Prop where
 |mk (a:Addr) (ns:List Int) (m:Int):(vs=[.ref a,.int m])->(aN K H a (ns.map V.int))->(ns.length<=100)->(0<=m)->(m<=100)->(∀(l:Addr)(xs:List V)(cs:List iK) H',H l=none->H' l=some (.lst xs)->CC H' xs cs->(∀x∈cs,AE x)->(cs.length:Int)=m->aG H H'->Q (.ref l) H')->qb K vs H Q E_
theorem zU:zzz T eH 4 41 ["_law_cells","_law_many"] (qb K):=by
 have cY:=m8 T
 have mK:=p9 T
 have Fe:=DW T
 have DX:=BY T
 refine T.rV.ok f7 'g' 'a'
 ·obtain⟨a,ns,m,rfl,_⟩:=h;rfl
 ·have hu:=bx hr
  have gg:=hr.aV
  obtain⟨a,ns,m,rfl,hS,hns,m0,m1,k⟩:=h
  refine⟨_,(aq (dj 2 f7.nd (aW ak))
   (aq (gc abZ rfl (fN rfl T.fH (af (pv 1) ak)) (e7 3 f7.nd)
   (aq (dj 4 f7.nd (aF bV (dR cY hr T.dY T.cX.kp T.dX (af (pv 0) (af (aF bq (pv 3) (gv (Hl rfl) T.E7 (af au (af (gv (aK K rfl) T.bB (af (pv 0) ak)) ak)))) ak))) (aF fm au (pv 3))))
   (aq (dj 5 f7.nd (dR mK hr T.rS T.mE.kp T.rR (af (pv 4) (af au ak))))
   (ay (aO (PW.pt (ia (cC (ua K rfl gg) (pv 2) (aW ak)) (gG (cC aU (aF bq (fM K (pv 5) au) au) au)))) (ay (dg (dw K rfl abE abH abI bI (pv 2) (af (dR DX hr T.DG T.vG.kp T.DF (af (aF bS (pv 4) au) ak)) ak)))) (ay (dg (dw K rfl abE abH abI bI (pv 2) (af (dR Fe hr T.E5 T.yz.kp T.EZ (af (fM K (pv 2) (aF bq (fM K (pv 5) au) (gv (aK K rfl) T.bB (af (pv 2) ak)))) (af (aF bS (fM K (pv 5) au) au) ak))) ak)))))))))
   (ay (aC (pv 2))))),?_⟩
  refine⟨by decide,λl hl=>?_⟩
  have s1:=ah (o:=HO.lst []) hl
  refine⟨_,O,_,O,by omega,by omega,?_⟩
  refine je (λi σ H2=>aG H H2/\∃(xs:List V)(cs:List iK)(v1 v2 v3:Option V),σ=[some (.ref a),some (.int m),some (.ref l),v1,v2,v3]/\H2 l=some (.lst xs)/\CC H2 xs cs/\(∀x∈cs,AE x)/\cs.length=i/\V.ref l∉xs) ⟨s1,[],[],_,_,_,rfl,ai,.nil,(λx q=>nomatch q),rfl,by simp⟩ ?_ ?_
  ·rintro i σ H2 hi ⟨s2,xs,cs,v1,v2,v3,rfl,h2,tp,gd,hc,hn⟩
   have hi:(i:Int)<m:=by omega
   have Vz:=s2.seq hS
   refine⟨_,O,_,O,_,O,a,_,O,.inl Vz,_,_,O,_,_,O,O,?_,?_⟩
   ·show(0:Int)<(if ((ns.map V.int).length:Int)>1 then ((ns.map V.int).length:Int) else 1)
    split<;>omega
   refine⟨a,ns,_,O,Vz,abN _ ?_,λc=>?_⟩
   ·show(if ((ns.map V.int).length:Int)>1 then ((ns.map V.int).length:Int) else 1)≠0
    split<;>omega
   refine⟨_,O,_,_,O,O,.inl ⟨by decide,by decide⟩,_,_,O,O,?_⟩
   refine⟨_,O,_,_,O,by decide,by decide,λlx ds H3 hdl hd0 hlx h3 s3=>?_⟩
   have hdl:ds.length=2:=hdl
   obtain⟨e1,e2,rfl⟩:∃e1 e2,ds=[e1,e2]:=by
    cases ds with
    |nil=>cases hdl
    |cons a l=>cases l with
     |nil=>cases hdl
     |cons b l=>cases l with
      |nil=>exact⟨a,b,rfl⟩
      |cons c l=>simp at hdl
   have h23:=s3 _ _ h2
   have Zh:=CC.mono s3 tp
   have S8:=Zh.length
   have XM:=s2.trans s3
   have room:xs.length<sizeLine:=abr (show xs.length<=100 by omega) 'c'
   have fin:∀(tt:Addr)(x:iK)(H4:Hp),aG H3 H4->H4 tt=some (.tup (lY x))->AE x->∃l' xs' y,V.ref l=.ref l'/\[V.ref tt]=[y]/\H4 l'=some (.lst xs')/\xs'.length<sizeLine/\(aG H (upd H4 l' (.lst (xs'++[y])))/\∃(xs:List V)(cs:List iK)(v1 v2 v3:Option V),[some (.ref a),some (.int m),some (.ref l),some (.int (0+(i:Int))),some (.int (c+97*(0+(i:Int)))),some (.ref lx)]=[some (.ref a),some (.int m),some (.ref l),v1,v2,v3]/\(upd H4 l' (.lst (xs'++[y]))) l=some (.lst xs)/\CC (upd H4 l' (.lst (xs'++[y]))) xs cs/\(∀x∈cs,AE x)/\cs.length=i+1/\V.ref l∉xs):=by
    intro tt x H4 s4 ht gx
    have LG:=s4 _ _ h23
    have ntl:tt≠l:=λq=>by rw[q,LG]at ht;cases ht
    refine⟨l,xs,.ref tt,O,O,LG,room,aL hl (XM.trans s4),xs++[.ref tt],cs++[x],_,_,_,O,ai,?_,?_,?_,?_⟩
    ·refine cu (ya hn (CC.mono s4 Zh)) (.cons ⟨tt,rfl,(aH ntl).trans ht⟩ .nil)
    ·intro z hz
     rcases abG.mp hz with q|q
     ·exact gd z q
     ·rw[abf.mp q];exact gx
    ·rw[abq];show cs.length+1=_;omega
    ·intro q
     rcases abG.mp q with q|q
     ·exact hn q
     ·exact ntl (V.ref.inj (abf.mp q)).symm
   refine⟨_,O,by decide,λe he=>?_⟩
   have s4:=ah (o:=HO.lst []) he
   have LG:=s4 _ _ h23
   have VA:=s4 _ _ h3
   have tp4:=CC.mono s4 Zh
   refine⟨l,e,xs,O,O,aN.of LG,aN.of ai,?_⟩
   generalize upd H3 e (.lst [])=H4 at s4 LG VA tp4⊢
   refine⟨_,O,bf (λ_=>fD ?_) (λhne=>?_)⟩
   ·exact⟨_,O,.inl ⟨O,_,aN.of LG⟩,_,O,_,_,O,O,⟨by decide,by decide⟩,_,O,λt p q f b1 b2 b3 b4 H5 g ht h5 s5=>fin t (p,q,f,⟨b1,b2,b3,b4⟩) H5 (s4.trans s5) h5 g⟩
   refine⟨_,O,lx,_,_,_,O,O,aN.of VA,O,_,_,O,O,(by show(0:Int)<4;decide),O,_,O,bf (λ_=>?_) (λ_=>?_)⟩
   ·exact⟨_,O,.inl ⟨O,_,aN.of LG⟩,_,O,_,_,O,O,⟨by decide,by decide⟩,_,O,λt p q f b1 b2 b3 b4 H5 g ht h5 s5=>fin t (p,q,f,⟨b1,b2,b3,b4⟩) H5 (s4.trans s5) h5 g⟩
   ·have pos:(0:Int)<xs.length:=by
     cases xs with
     |nil=>exact absurd rfl hne
     |cons x xs=>rw[abF];omega
    have j0:=abN e2 (show(xs.length:Int)≠0 by omega)
    have j1:=abL e2 pos
    obtain⟨j,ej⟩:=acf j0
    have hjl:j<xs.length:=by omega
    obtain⟨x,hx,tt,ett,Vs⟩:=aI tp4 j _ (abk hjl)
    have hat:fu xs (e2 % (xs.length:Int))=some (.ref tt):=by
     rw[ej]
     exact bh (by rw[abk hjl,ett])
    exact⟨_,O,.inl ⟨O,_,aN.of LG⟩,_,O,_,O,lx,_,_,_,O,O,aN.of VA,O,_,O,l,_,O,.inl (aN.of LG),_,_,O,O,pos,l,_,_,.ref tt,O,O,aN.of LG,hat,_,O,lx,_,_,_,O,O,aN.of VA,O,_,_,O,O,⟨by decide,by decide⟩,tt,_,x,O,Vs,gd x (abi hx),λt2 y H5 gy h5 s5=>fin t2 y H5 (s4.trans s5) h5 gy⟩
  ·rintro σ H2 ⟨s2,xs,cs,v1,v2,v3,rfl,h2,tp,gd,hc,hn⟩
   exact⟨_,O,k l xs cs H2 hl h2 tp gd 'b' s2⟩
inductive oE(K:W.Frag)(vs:List V)(H:Hp)(Q:VK)(E_:XK):Prop where
 |mk (t:Addr) (z:Str) (x:iK):(vs=[.ref t,.str z])->(H t=some (.tup (lY x)))->(z.length<=2000)->(∀v H',o8 H H' v (CD (runC x z) z)->aG H H'->Q v H')->oE K vs H Q E_
theorem yM:zzz T eH 4 42 ["_law_told_here","_law_text_here"] (oE K):=by
 have Cb:=zS T
 have zV:=yK T
 refine T.pR.ok jB 'g' 'a'
 ·obtain⟨t,z,x,rfl,_⟩:=h;rfl
 ·have hu:=bx hr
  obtain⟨t,z,x,rfl,ht,hz,k⟩:=h
  refine⟨_,(aq (dU (dR zV hr T.zF T.pQ.kp T.zE (af (pv 0) (af (pv 1) ak))) (eZ K rfl 2 rfl (aS (e7 2 jB.nd) (aS (e7 3 jB.nd) eY))))
   (aq (aO (cC pH (pv 3) az) (ay (aC gw)) aD)
   (ay (aC (dR Cb hr T.BL T.rT.kp T.BK (af (pv 1) (af (pv 2) ak))))))),?_⟩
  have hrl:=Gv (p:=x.1) (q:=x.2.1) (f:=x.2.2.1) (b1:=x.2.2.2.a) (b2:=x.2.2.2.b) (b3:=x.2.2.2.c) (b4:=x.2.2.2.d) (cs:=z.cps.toList) (w:=("row":Str)) (u:=("":Str))
  have zJ:z.cps.toList.length=z.length:=by rw[abA];rfl
  refine⟨_,O,_,O,t,z,x.1,x.2.1,x.2.2.1,x.2.2.2.a,x.2.2.2.b,x.2.2.2.c,x.2.2.2.d,O,ht,by omega,λtw lk H1 htw GS hk s1=>?_⟩
  refine⟨tw,_,O,bD.of htw,O,_,_,O,_,_,O,O,?_⟩
  unfold CD at k
  refine⟨_,O,O,_,O,R5 (λc=>?_) (λc=>?_)⟩
  ·have e:¬zq (runC x z)=("":Str):=c
   rw[abb e]at k
   exact k .non H1 rfl s1
  have e:zq (runC x z)=("":Str):=c
  rw[abj e]at k
  dsimp only[NK]
  refine⟨_,O,_,O,z,lk,_,O,hk,hz,by rw[←zJ];exact hrl,λv H2 tv s2=>?_⟩
  obtain⟨l,es,rfl,a,b,_,_,r⟩:=tv.ok
  refine k _ H2 ⟨l,es,rfl,s1.free a,b,jP.old s1 r⟩ (s1.trans s2)
inductive qc(K:W.Frag)(vs:List V)(H:Hp)(Q:VK)(E_:XK):Prop where
 |mk (la lp:Addr) (i:Nat) (fX:List V) (cs:List iK) (zs:List Str) (A:Hp) (ps:List Nat):(vs=[.ref la,.int (i:Int),.ref lp])->(H la=some (.lst fX))->(nh A H zs fX cs)->(cs.length<=100)->(zs.length<=100)->(i<zs.length)->(H lp=some (.lst (ps.map nV)))->((∀p∈ps,p<cs.length))->(ps.length<=100)->(∀l es H',H l=none->H' l=some (.lst es)->bg H H' es (aE ((gi cs zs).getD i []) ps)->aG H H'->Q (.ref l) H')->qc K vs H Q E_
theorem qd:zzz T eH 1 43 ["_law_answers","_law_at","_law_places"] (qc K):=by
 refine T.gT.ok iD 'g' 'a'
 ·obtain⟨la,lp,i,fX,cs,zs,A,ps,rfl,_⟩:=h;rfl
 ·have hu:=bx hr
  have gg:=hr.aV
  obtain⟨la,lp,Oe,fX,cs,zs,A,ps,rfl,hla,HU,hcl,Nc,hat,qI,hlt,hpl,k⟩:=h
  have uQ:=hr.units
  obtain⟨z5,Zi⟩:∃z,zs[Oe]?=some z:=⟨_,abk hat⟩
  have hal:=HU.length
  obtain⟨r,hrr⟩:∃r,r=(gi cs zs).getD Oe []:=⟨_,rfl⟩
  rw[←hrr]at k
  refine⟨_,(aq (dj 3 iD.nd (aW ak))
   (aq (gc abZ rfl (bL K rfl (pv 2)) (e7 4 iD.nd)
   (aq (xA (i:=5) rfl iD.nd rfl rfl (show aX ["_law_answers","_law_at","_law_places","_law_parts_here","_law_place","_law_same"] (aA ja) ["_law_part","_law_at","_law_answers","_law_place"] 1 [1,0,4] _ from zp) (bL K rfl (pv 3)) (λ_ _ _ _=>(e7 0 (show(["_law_part","_law_at","_law_answers","_law_place"]:List Str).Nodup by decide +kernel))) (λ_ _ _ _=>(qT (cC (O6 K rfl uQ) (fM K (fM K (pv 2) (fM K (pv 0) au)) (pv 1)) (fM K (fM K (pv 2) (pv 3)) (pv 1))))) (λ_ _ _ _=>(pv 0)))
   (ay (aO (cC (ua K rfl gg) (pv 5) (aW ak)) (ay (dg (dw K rfl abE abH abI bI (pv 3) (af (aW (af (pv 4) ak)) ak)))) (ay (dg (dw K rfl abE abH abI bI (fM K (pv 5) au) (af (pv 4) ak))))))))
   (ay (aC (pv 3))))),?_⟩
  refine⟨by decide,λl hl=>?_⟩
  have s1:=ah (o:=HO.lst []) hl
  refine⟨_,O,lp,O,⟨_,aN.of (s1 _ _ qI)⟩,?_⟩
  refine ny (K:=K) (a:=lp) (xs:=ps.map nV) (λi σ J=>aG H J/\∃es v1 v2,σ=[some (.ref la),some (.int (Oe:Int)),some (.ref lp),some (.ref l),v1,v2]/\J l=some (.lst es)/\V.ref l∉es/\es.Nodup/\bg H J es (aE r (ps.take i))/\(aE r (ps.take i)).length<=i) ⟨s1,[],_,_,rfl,ai,by simp,List.nodup_nil,.nil,abh _⟩ (λi σ J _ q=>aN.of (q.1 _ _ qI)) ?_ ?_
  ·rintro i e σ J hi ⟨sJ,es,v1,v2,rfl,hJ,hn,nd,pa,pl⟩
   obtain⟨p,hp,rfl⟩:=lZ hi
   have Xq:=abi hp
   have hp1:=hlt p Xq
   have hil:i<ps.length:=(abd.mp hp).1
   have good:=cD (r:=r) (ps:=ps.take i)
   have Xr:=yc (r:=r) hp
   have Tc:∀q∈aE r (ps.take i),q.headD 0<cs.length:=λq hq=>by
    obtain⟨h1,h2⟩:=good q hq
    cases q with
    |nil=>exact absurd rfl h1
    |cons x q=>exact hlt x (acr (h2 x (abl ..)))
   have hne:∀q∈aE r (ps.take i),q≠[]:=λq hq=>(good q hq).1
   have Lb:=pa.length
   have Td:∀q∈aE r (ps.take i),q.length<=i:=λq hq=>by
    have:=jQ hq;rw[abJ]at this;omega
   rw[Xr]
   generalize aE r (ps.take i)=qs at pa pl Tc hne Lb Td
   obtain⟨w2,Kc⟩:∃w2,fX[p]?=some w2:=⟨_,abk 'b'⟩
   obtain⟨x2,Gi,a2,es2,rfl,he2,pe2⟩:=aI HU _ _ Kc
   obtain⟨v2',Us⟩:∃v2',es2[Oe]?=some v2':=⟨_,abk (by have:=pe2.length;omega)⟩
   obtain⟨z',hz',r2⟩:=aI pe2 _ _ Us
   rw[Zi]at hz';cases hz'
   have Xs:fu fX (p:Int)=some (.ref a2):=bh Kc
   have atw:fu es2 ((Oe:Nat):Int)=some v2':=bh Us
   refine⟨_,O,l,O,⟨_,aN.of hJ⟩,λD hD=>?_⟩
   refine bZ (K:=K) (a:=l) (xs:=es) (λj ys τ G=>(∃v,τ=[v,some (.int (Oe:Int)),some (.ref la),some (nV p)])/\aG J G/\G D=some (.lst ys)/\ys=qz r p ((es.zip qs).take j)) ⟨⟨_,rfl⟩,ah hD,ai,rfl⟩ (λj ys τ G _ q=>⟨aN.of (q.2.1 _ _ hJ),q.2.2.1⟩) ?_ ?_
   ·rintro j e ys τ G hj ⟨⟨v,rfl⟩,sG,hG,rfl⟩
    obtain⟨q,hq,a,rfl,ha0,ha⟩:=aI pa j e hj
    have xG:=abi hq
    have Xu:=sG _ _ ha
    have hqn:=hne q xG
    have hql:=Tc q xG
    have pF:fu (q.map nV) 0=some (nV (q.headD 0)):=by
     cases q with
     |nil=>exact absurd rfl hqn
     |cons x q=>exact(show fu _ ((0:Nat):Int)=_ from bh rfl)
    have Xw:(es.zip qs)[j]?=some (.ref a,q):=by rw[abY];exact⟨hj,hq⟩
    have hhl:=Gz (r:=r) (p:=p) (Z:=(es.zip qs).take j)
    have zJ:((es.zip qs).take j).length<=100:=by rw[abJ,acs];omega
    rw[Dk Xw]
    obtain⟨w1,hw1⟩:∃w1,fX[q.headD 0]?=some w1:=⟨_,abk 'b'⟩
    obtain⟨x1,MK,a1,es1,rfl,WL,pe1⟩:=aI HU _ _ hw1
    obtain⟨v1',Ut⟩:∃v1',es1[Oe]?=some v1':=⟨_,abk (by have:=pe1.length;omega)⟩
    obtain⟨z',hz',r1⟩:=aI pe1 _ _ Ut
    rw[Zi]at hz';cases hz'
    have Uu:=sJ.trans sG
    have Xv:fu fX ((q.headD 0:Nat):Int)=some (.ref a1):=bh hw1
    have atv:fu es1 ((Oe:Nat):Int)=some v1':=bh Ut
    have Zj:=Uu _ _ WL
    have Zk:=Uu _ _ he2
    have zW:=Uu _ _ hla
    have top:=Ph (K:=K) (o8.mono Uu r1) (o8.mono Uu r2)
    have key:=ER Zi MK Gi
    rw[←hrr]at key
    refine⟨_,O,_,O,_,_,_,_,O,O,aN.of Xu,pF,la,_,_,_,O,O,aN.of zW,Xv,_,O,_,_,_,_,O,O,aN.of Zj,atv,_,O,_,O,la,_,_,_,O,O,aN.of zW,Xs,_,O,_,_,_,_,O,O,aN.of Zk,atw,_,top,_,O,NT (λc=>?_) (λc=>?_)⟩
    ·have c:r.getD (q.headD 0) 0=r.getD p 0:=key.mpr c
     rw[abj c]
     refine⟨_,O,hG,abr (show _<=200 by omega) 'c',⟨_,O⟩,aL hD sG,ai,O⟩
    ·have c:¬r.getD (q.headD 0) 0=r.getD p 0:=λe=>c (key.mp e)
     rw[abb c]
     exact⟨⟨_,O⟩,sG,hG,O⟩
   rintro ys τ G ⟨⟨v,rfl⟩,sG,hG,rfl⟩
   have hel:es.length=qs.length:=Lb
   rw[aby (by rw[acs];omega)]at hG
   have Qf:=sG _ _ hJ
   have lD:l≠D:=λq=>by rw[q]at hJ;rw[hD]at hJ;cases hJ
   rcases um (r:=r) (p:=p) hel with ⟨e1,e2⟩|⟨e,ws,j,q,e1,e2,e3,e4⟩
   ·rw[e1]at hG
    rw[e2]
    dsimp only[bQ]
    refine⟨_,O,'c',λq0 mj=>⟨_,_,_,O,O,aN.of (ah mj _ _ hG),aN.of ai,_,O,fD (⟨_,O,.inl ⟨O,⟨_,aN.of (ah mj _ _ Qf)⟩⟩,_,O,(by show(1:Nat)<=sizeLine;decide),?_⟩)⟩⟩
    (have u1:=ah (o:=HO.lst []) mj;have g1:=ai (H:=G) (a:=q0) (o:=HO.lst []);generalize upd G q0 (HO.lst [])=G1 at u1 g1⊢)
    have Lc:=u1 _ _ Qf
    have D8:=sJ.trans (sG.trans u1)
    have LD:=bg.mono (sG.trans u1) pa
    intro n hn0
    have Te:n≠l:=λq=>by rw[q,Lc]at hn0;cases hn0
    have s2:=ah (o:=HO.lst [nV p]) hn0
    have Vq:V.ref n∉es:=λq=>by
     obtain⟨j,hj⟩:=ab2.mp q
     obtain⟨_,_,a,e,_,ha⟩:=aI LD j _ hj
     cases e;rw[ha]at hn0;cases hn0
    refine⟨_,_,_,O,O,s2 _ _ Lc,abr (show es.length<=200 by omega) 'c',aL hl (D8.trans s2),es++[.ref n],_,_,O,ai,?_,?_,?_,?_⟩
    ·intro q
     rcases abG.mp q with q|q
     ·exact hn q
     ·exact Te (V.ref.inj (abf.mp q)).symm
    ·exact acI.mpr ⟨nd,by simp,λx hx y hy e=>Vq (by rw[abf.mp hy]at e;exact e▸hx)⟩
    ·exact cu (bg.but hn (bg.mono s2 LD)) (.cons ⟨n,rfl,D8.free hn0,(aH Te).trans ai⟩ .nil)
    ·rw[abq];show qs.length+1<=i+1;omega
   ·rw[e1]at hG
    rw[e4]
    obtain⟨q',hq',a,rfl,ha0,ha⟩:=aI pa j e e2
    rw[e3]at hq';cases hq'
    dsimp only[bQ]
    have hqi:=Td q (abi e3)
    refine⟨_,O,'c',λq0 mj=>⟨_,_,_,O,O,aN.of (ah mj _ _ hG),aN.of ai,_,O,bE (⟨_,O,_,_,_,_,O,O,aN.of (ah mj _ _ hG),(show fu _ ((0:Nat):Int)=_ from bh rfl),.inl ⟨O,⟨_,aN.of (ah mj _ _ (sG _ _ ha))⟩⟩,_,O,_,_,_,O,O,(ah mj _ _ (sG _ _ ha)),?_,(aL ha0 (aL ((sJ.trans sG).free mj) (sJ.trans sG))),?_⟩)⟩⟩
    ·rw[aa9];exact abr (show q.length<=100 by omega) 'c'
    have sn:=ah (o:=HO.lst []) mj
    have Ob:=sG.trans sn
    have el:q++[p]=q++[p]:=rfl
    have al:l≠a:=λq=>hn (by rw[q];exact abi e2)
    refine⟨es,_,_,O,(aH al).trans (sn _ _ Qf),hn,nd,?_,by rw[List.length_set];omega⟩
    rw[show q.map nV++[nV p]=(q++[p]).map nV by rw[abw];rfl]
    exact bg.Pf (bg.mono Ob pa) nd e2
  ·rintro σ J ⟨sJ,es,v1,v2,rfl,hJ,hn,nd,pa,pl⟩
   rw[aby (by rw[aa9];exact abh _)]at pa
   exact⟨_,O,k l es J hl hJ pa sJ⟩
inductive sM(K:W.Frag)(vs:List V)(H:Hp)(Q:VK)(E_:XK):Prop where
 |mk (l:Addr) (xs:List V) (cs:List iK):(vs=[.ref l])->(H l=some (.lst xs))->(CC H xs cs)->((∀x∈cs,AE x))->(cs.length<=101)->(∀z:Str,gh z->1<=z.length->z.length<=1000->Q (.str z) H)->sM K vs H Q E_
theorem Cc:zzz T eH 1 44 ["_law_tolds_here"] (sM K):=by
 refine T.vJ.ok gQ 'g' 'a'
 ·obtain⟨l,xs,cs,rfl,_⟩:=h;rfl
 ·have hu:=bx hr
  obtain⟨l,xs,cs,rfl,hl,tp,gd,hc,k⟩:=h
  have S8:=tp.length
  refine⟨_,(aq (dj 1 gQ.nd az)
   (aq (gc abZ rfl (bL K rfl (pv 0)) (e7 2 gQ.nd)
   (ay (gc abZ rfl (Be (aF fq (aF fq (jK K (pv 2) au) (jK K (pv 2) au)) (jK K (pv 2) au))) (e7 3 gQ.nd)
   (ay (aO (cC vp (dw K rfl PySem.F.plainAttrs_str PySem.F.slot_str_count PySem.F.type_str_count CY (pv 1) (af (pv 3) ak)) au) (ay (dj 1 gQ.nd (aF fq (pv 1) (pv 3)))) aD)))))
   (ay (aC (pv 1))))),?_⟩
  refine⟨_,O,l,O,⟨_,aN.of hl⟩,?_⟩
  have m0:gh (Str.ofString "\n\nab \n"):=(by decide +kernel:∀c∈(Str.ofString "\n\nab \n").cps.toList,c=10\/Pn c)
  have m1:(Str.ofString "\n\nab \n").length=6:=by decide +kernel
  refine ny (K:=K) (a:=l) (xs:=xs) (λi σ H2=>H2=H/\∃(z:Str)(v1 v2:Option V),σ=[some (.ref l),some (.str z),v1,v2]/\gh z/\1<=z.length/\z.length<=6+7*i) ⟨rfl,_,_,_,rfl,m0,by omega,by omega⟩ (λi σ H2 _ q=>by rw[q.1];exact aN.of hl) ?_ ?_
  ·rintro i e σ H2 hi ⟨rfl,z,v1,v2,rfl,z1,z2,z3⟩
   obtain⟨x,hx,t,rfl,ht⟩:=aI tp i e hi
   have hil:i<xs.length:=(abd.mp hi).1
   have g:=gd x (abi hx)
   have hp3:=g.p3;have hq2:=g.q2;have hf2:=g.f2
   have hS:bD K H2 t (lY x):=bD.of ht
   have sl1:=lW x.1 x.2.1
   have sl2:=lW (x.1++x.2.1) x.2.2.1
   refine⟨_,O,t,_,_,_,O,O,hS,O,_,O,t,_,_,_,O,O,hS,O,_,_,O,O,abv (show x.1.length+x.2.1.length<=5 by omega) 'c',_,O,t,_,_,_,O,O,hS,O,_,_,O,O,abv (show(x.1++x.2.1).length+x.2.2.1.length<=7 by omega) 'c',_,O,?_⟩
   have szl:((x.1++x.2.1)++x.2.2.1).cps.toList.length<=7:=by
    rw[abA];show((x.1++x.2.1)++x.2.2.1).length<=7;omega
   refine Ga (z:=(x.1++x.2.1)++x.2.2.1) (λj σ H3=>H3=H2/\∃(z:Str)(v2:Option V),σ=[some (.ref l),some (.str z),some (.ref t),v2]/\gh z/\1<=z.length/\z.length<=6+7*i+j) ⟨rfl,z,_,rfl,z1,z2,by omega⟩ ?_ ?_
   ·rintro j c σ H3 hj ⟨rfl,y,v3,rfl,y1,y2,y3⟩
    have hjl:=(abd.mp hj).1
    have hc:c=10\/Pn c:=by
     have hm:=abi hj
     rw[app_list,app_list]at hm
     rcases abG.mp hm with hm|hm
     ·rcases abG.mp hm with hm|hm
      ·exact .inr (g.gp.pr c hm)
      ·exact .inr (g.gq.pr c hm)
     ·exact .inr (g.gf.pr c hm)
    refine⟨_,O,O,_,O,_,_,O,O,_,_,O,O,_,O,bf (λ_=>?_) (λ_=>⟨O,y,_,O,y1,y2,by omega⟩)⟩
    have al:=lW y (sg c)
    have c1:(sg c).length=1:=rfl
    refine⟨_,O,_,O,_,_,O,O,abv (show y.length+(sg c).length<=1000 by omega) 'c',O,y++sg c,_,O,?_,by omega,by omega⟩
    intro d hd
    rw[app_list]at hd
    rcases abG.mp hd with q|q
    ·exact y1 d q
    ·rw[abf.mp (show d∈[c]from q)];exact hc
   ·rintro σ H3 ⟨rfl,y,v3,rfl,y1,y2,y3⟩
    exact⟨O,y,_,_,O,y1,y2,by omega⟩
  ·rintro σ H2 ⟨rfl,z,v1,v2,rfl,z1,z2,z3⟩
   exact⟨_,O,k z z1 z2 'b'⟩
inductive sN(K:W.Frag)(vs:List V)(H:Hp)(Q:VK)(E_:XK):Prop where
 |mk (c m:Int) (l:Addr) (xs:List V) (cs:List iK):(vs=[.int c,.ref l,.int m])->(H l=some (.lst xs))->(CC H xs cs)->((∀x∈cs,AE x))->(cs.length<=101)->(0<=m)->(m<=100)->(∀(z:Str) H',gh z->(z.length:Int)<=m+1->aG H H'->Q (.str z) H')->sN K vs H Q E_
theorem Cd:zzz T eH 3 45 ["_law_cell","_law_tolds_here","_law_most"] (sN K):=by
 have mK:=p9 T
 have DY:=Cc T
 refine T.vK.ok gR 'g' 'a'
 ·obtain⟨c,m,l,xs,cs,rfl,_⟩:=h;rfl
 ·have hu:=bx hr
  obtain⟨c,m,l,xs,cs,rfl,hl,tp,gd,hc,m0,m1,k⟩:=h
  refine⟨_,(aq (dj 3 gR.nd (dR mK hr T.rS T.mE.kp T.rR (af (pv 0) (af (aF bV (pv 2) au) ak))))
   (aq (dj 4 gR.nd (dR DY hr T.DM T.vJ.kp T.DL (af (pv 1) ak)))
   (aq (dj 5 gR.nd (dw K rfl PySem.F.plainAttrs_str PySem.F.slot_str_join PySem.F.type_str_join (JP K rfl) az (af (di rfl (show aX ["_law_cell","_law_tolds_here","_law_most","_law_xs","_law_menu_here","_law_text_here"] (aA jN) ["_law_x","_law_menu_here"] 1 [4] _ from zp) (bL K rfl (cG (dD K rfl) (pv 3) (cJ au) (cJ (aF bV au (aF bq (fM K (pv 3) au) (aF bV (pv 2) au)))))) (λ_ _ _ _=>(e7 0 (show(["_law_x","_law_menu_here"]:List Str).Nodup by decide +kernel))) (λ_ _ _ _=>dh) (λ_ _ _ _=>(Aq AZ (pv 1) (aF bq (pv 0) (gv d9 T.bB (af (pv 1) ak))) (λ_ _=>rfl)))) ak)))
   (aq (aO (cC qR (aF bq (fM K (pv 3) au) au) au) (ay (dj 5 gR.nd (aF fq (pv 5) az))) aD)
   (ay (aC (pv 5))))))),?_⟩
  refine⟨_,O,_,O,_,_,O,O,_,_,O,by omega,by omega,λlx ds H1 hdl hd0 hlx h1 s1=>?_⟩
  refine⟨_,O,l,xs,cs,O,s1 _ _ hl,CC.mono s1 tp,gd,hc,λmz y1 y2 y3=>?_⟩
  have hdl:ds.length=(m+2).toNat:=hdl
  obtain⟨e0,e1,ds',rfl⟩:∃e0 e1 ds',ds=e0::e1::ds':=by
   cases ds with
   |nil=>simp at hdl;omega
   |cons a l=>cases l with
    |nil=>simp at hdl;omega
    |cons b l=>exact⟨a,b,l,rfl⟩
  have pF:fu ((e0::e1::ds').map V.int) 0=some (.int e0):=(show fu _ ((0:Nat):Int)=_ from bh rfl)
  have D9:fu ((e0::e1::ds').map V.int) 1=some (.int e1):=(show fu _ ((1:Nat):Int)=_ from bh rfl)
  have hml:mz.length<=sizeLine:=abv y3 'c'
  refine⟨O,_,O,_,O,_,O,lx,_,_,_,O,O,aN.of h1,pF,_,O,_,_,O,O,_,_,O,O,(by show 0<m+1;omega),_,_,O,O,_,O,lx,_,O,aN.of h1,λp hp=>?_⟩
  generalize hcv:aZ ((e0::e1::ds').map V.int) (some 2) _=cv at hp⊢
  have hcl:(cv.length:Int)<=m:=by
   rw[←hcv]
   have q:=HQ (xs:=(e0::e1::ds').map V.int) (hi:=some (2+e0 % (m+1))) (by rw[aa9,abF,abF];omega)
   rw[aa9,hdl]at q
   omega
  have hci:∀v∈cv,∃n:Int,v=.int n:=λv hv=>by
   rw[←hcv]at hv
   obtain⟨n,_,rfl⟩:=List.mem_map.mp (List.mem_of_mem_drop (acr hv))
   exact⟨n,O⟩
  have s2:=ah (o:=HO.lst cv) hp
  have h2:(upd H1 p (.lst cv)) p=some (.lst cv):=ai
  have h12:=s2 _ _ h1
  have s12:=s1.trans s2
  generalize upd H1 p (.lst cv)=H2 at s2 h2 h12 s12⊢
  refine⟨p,O,⟨_,aN.of h2⟩,λD hD=>?_⟩
  refine bZ (K:=K) (a:=p) (xs:=cv) (λi ys τ H3=>(∃v,τ=[v,some (.str mz)])/\aG H2 H3/\H3 D=some (.lst ys)/\∃zs:List Str,ys=zs.map V.str/\zs.length=i/\∀z∈zs,gh z/\z.length<=1) ⟨⟨_,rfl⟩,ah hD,ai,[],rfl,rfl,λz q=>nomatch q⟩ (λi ys τ H3 _ q=>⟨aN.of (q.2.1 _ _ h2),q.2.2.1⟩) ?_ ?_
  ·rintro i e ys τ H3 hi ⟨⟨v,rfl⟩,s3,Zl,zs,rfl,zJ,hzs⟩
   have hil:i<cv.length:=(abd.mp hi).1
   obtain⟨n,rfl⟩:=hci e (abi hi)
   have hlen:mz.cps.toList.length=mz.length:=by rw[abA];rfl
   obtain⟨d,ed,hd⟩:=EI (xs:=mz.cps.toList) (abN n (show(mz.length:Int)≠0 by omega)) (by rw[hlen];exact abL n 'b')
   refine o7 ?_
   refine⟨_,O,_,O,_,O,mz,O,hml,_,_,O,O,(by show(0:Int)<(mz.length:Int);omega),mz,_,d,O,O,hml,ed,Zl,?_,⟨_,O⟩,aL hD s3,ai,zs++[sg d],?_,?_,?_⟩
   ·rw[aa9];exact abr (show zs.length<=102 by omega) 'c'
   ·rw[abw];rfl
   ·rw[abq,zJ];rfl
   ·intro z hz
    rcases abG.mp hz with q|q
    ·exact hzs z q
    ·rw[abf.mp q]
     exact⟨λb hb=>by rw[abf.mp (show b∈[d]from hb)];exact y1 d hd,abh _⟩
  rintro ys τ H3 ⟨⟨v,rfl⟩,s3,Zl,zs,rfl,zJ,hzs⟩
  have sl:=Mw (zs:=zs) (m:=1) λz hz=>(hzs z hz).2
  have fl:=Pb (zs:=zs) (m:=1) λz hz=>(hzs z hz).2
  have jl:=join_list zs
  have jn:((Txt.join ("":Str) zs).length:Int)<=m:=by
   have:=congrArg List.length jl
   rw[abA]at this
   have:(Txt.join ("":Str) zs).length=_:=this
   omega
  have jo:gh (Txt.join ("":Str) zs):=λb hb=>by
   rw[jl]at hb
   obtain⟨z,hz,hb⟩:=List.mem_flatMap.mp hb
   exact(hzs z hz).1 b hb
  refine⟨_,D,zs,O,O,aN.of Zl,by omega,?_⟩
  have h13:=s3 _ _ h12
  have Fd:=s12.trans s3
  refine⟨_,O,lx,_,_,_,O,O,aN.of h13,D9,_,_,O,O,(by show(0:Int)<3;decide),_,_,O,O,_,O,bf (λ_=>?_) (λ_=>⟨_,O,k _ H3 jo 'b' Fd⟩)⟩
  have nl1:(Str.ofString "\n").length=1:=by decide +kernel
  have al:=lW (Txt.join ("":Str) zs) (Str.ofString "\n")
  refine⟨_,O,_,_,O,O,abv (show(Txt.join ("":Str) zs).length+(Str.ofString "\n").length<=200 by omega) 'c',_,O,k _ H3 (λb hb=>?_) 'b' Fd⟩
  rw[app_list]at hb
  rcases abG.mp hb with q|q
  ·exact jo b q
  ·rw[lnl]at q;exact .inl (abf.mp q)
inductive iF(K:W.Frag)(D:Nat)(vs:List V)(H:Hp)(Q:VK)(E_:XK):Prop where
 |mk (la lp:Addr) (c:Int) (deep:Nat) (fX:List V) (cs:List iK) (zs:List Str) (A:Hp) (ps:List Nat):(vs=[.ref la,.int (zs.length:Int),.ref lp,.int c,.int (deep:Int)])->(H la=some (.lst fX))->(nh A H zs fX cs)->(cs.length<=100)->(zs.length<=100)->(1<=zs.length)->(H lp=some (.lst (ps.map nV)))->((∀p∈ps,p<cs.length))->(ps≠[])->(ps.length<=20)->(0<=c)->(c+200*D<=2000000000)->(deep+D<=100)->(QY (gi cs zs) ps deep<D)->(∀u v H',AG (gi cs zs) (D-1) ps u->eU H H' (D-1) v u->aG H H'->Q v H')->iF K D vs H Q E_
theorem uS:∀d:Nat,bu P w K mg base eH (1+1*d) (aM 46) (aR 46) ["_law_answers","_law_many","_law_places","_law_cell","_law_deep_here"] (iF K d):=by
 intro d
 induction d with
 |zero=>exact⟨λvs H Q E h=>by exfalso;obtain⟨la,lp,c,deep,fX,cs,zs,A,ps,rfl,_,_,_,_,_,_,_,_,_,_,_,_,hd,_⟩:=h;omega,λA outer s H args us vs Q E _ _ _ _ h=>by exfalso;obtain⟨la,lp,c,deep,fX,cs,zs,A,ps,rfl,_,_,_,_,_,_,_,_,_,_,_,_,hd,_⟩:=h;omega⟩
 |succ d ih =>
  have mO:=ih
  show bu P w K mg base eH (1+1*d+1) (aM 46) (aR 46) ["_law_answers","_law_many","_law_places","_law_cell","_law_deep_here"] (iF K (d+1))
  have bN:=f9 T
  have gU:=qd T
  refine T.mF.ok cQ 'g' 'a'
  ·obtain⟨la,lp,c,deep,fX,cs,zs,A,ps,rfl,_⟩:=h;rfl
  ·have Fc:=hr
   have hr:dM 1 _:=hr.mono 'b'
   have gg:=hr.aV
   obtain⟨la,lp,c,deep,fX,cs,zs,A,ps,rfl,hla,HU,hcl,Nc,hz1,qI,hlt,Ea,hpl,c0,c1,hdp,Q3,k⟩:=h
   have uQ:=hr.units
   have Vx:(gi cs zs).length=zs.length:=aa9 _
   have hal:=HU.length
   refine'⟨_,?aa,?bb⟩
   case aa =>
    refine' aq ?s0 ?r0
    case s0 =>
     exact(dj 5 cQ.nd (aF bq (dR bN hr T.dI T.cN.kp T.dH (af (pv 3) (af (aF bV au (aF fm au (pv 4))) ak))) (pv 1)))
    case r0 =>
     refine' aq ?s1 ?r1
     case s1 =>
      exact(dj 6 cQ.nd (dR gU hr T.jc T.gT.kp T.jb (af (pv 0) (af (pv 5) (af (pv 2) ak)))))
     case r1 =>
      refine' aq ?s2 ?r2
      case s2 =>
       exact(dj 7 cQ.nd (AD (ua K rfl gg) (di rfl (show aX ["_law_answers","_law_many","_law_places","_law_cell","_law_deep_here","_law_at","_law_parts_here","_law_alike","_law_branches","_law_k"] (aA gJ) ["_law_place","_law_answers","_law_places"] 1 [0,2] _ from zp) (bL K rfl (pv 2)) (λ_ _ _ _=>(e7 0 (show(["_law_place","_law_answers","_law_places"]:List Str).Nodup by decide +kernel))) (λ_ _ _ _=>(qT (cC (Km K rfl uQ) (fM K (pv 1) (pv 0)) (fM K (pv 1) (fM K (pv 2) au))))) (λ_ _ _ _=>(pv 0))) (aW ak)))
      case r2 =>
       refine' aq ?s3 ?r3
       case s3 =>
        refine' aO ?c4 ?b4 ?e4
        case c4=>exact(PW.pt (cI (bT (pv 7)) (cj (PW.pt (ia (cC qR (pv 4) au) (gG (cC qR (aF bq (dR bN hr T.dI T.cN.kp T.dH (af (pv 3) (af (aF bV au (aF fm au (pv 4))) ak))) au) au)))))))
        case b4 =>
         refine' ay ?s5
         case s5 =>
          refine' aC ?v6
          case v6 =>
           refine' aB ?a7
           case a7 =>
            refine' af ?x8 ?y8 ?z8
            case z8=>exact rfl
            case x8 =>
             exact az
            case y8 =>
             refine' af ?x9 ?y9 ?z9
             case z9=>exact rfl
             case x9 =>
              exact(EG (cy K rfl) T.fh (af (pv 2) ak))
             case y9 =>
              exact ak
        case e4 =>
         exact aD
       case r3 =>
        refine' aq ?JK ?Py
        case JK =>
         refine' aO ?Pz ?MQ ?PB
         case Pz=>exact(PW.pt (cI (cC aU (gv (aK K rfl) T.bB (af (pv 6) ak)) au) (cj (dm (bT (pv 7))))))
         case MQ =>
          refine' aq ?s12 ?r12
          case s12 =>
           exact(dj 5 cQ.nd (fM K (di rfl (show aX ["_law_answers","_law_many","_law_places","_law_cell","_law_deep_here","_law_at","_law_parts_here","_law_alike","_law_branches","_law_k"] (aA gJ) ["_law_k","_law_answers","_law_places"] 1 [0,2] _ from zp) (fN rfl T.fH (af (pv 1) ak)) (λ_ _ _ _=>(e7 0 (show(["_law_k","_law_answers","_law_places"]:List Str).Nodup by decide +kernel))) (λ_ _ _ _=>(qT (cC qR (gv (aK K rfl) T.bB (af (dR gU hr T.jc T.gT.kp T.jb (af (pv 1) (af (pv 0) (af (pv 2) ak)))) ak)) au))) (λ_ _ _ _=>(pv 0))) au))
          case r12 =>
           refine' ay ?Fd
           case Fd =>
            exact(dj 6 cQ.nd (dR gU hr T.jc T.gT.kp T.jb (af (pv 0) (af (pv 5) (af (pv 2) ak)))))
         case PB =>
          exact aD
        case Py =>
         refine' aq ?T5 ?Yg
         case T5 =>
          refine' dj 8 cQ.nd ?v15
          case v15 =>
           refine' aW ?Zm
           case Zm =>
            exact ak
         case Yg =>
          refine' aq ?MS ?MT
          case MS =>
           exact(gc abZ rfl (fN rfl T.fH (af (gv (aK K rfl) T.bB (af (pv 6) ak)) ak)) (e7 9 cQ.nd)
      (ay (dg (dw K rfl abE abH abI bI (pv 8) (af (dR mO Fc T.rY T.mF.kp T.rW (af (pv 0) (af (pv 1) (af (fM K (pv 6) (pv 9)) (af (aF bV (aF bV (pv 3) (aF fm au (pv 9))) au) (af (aF bV (pv 4) au) ak))))) (hkk:=abh _)) ak)))))
          case MT =>
           refine' ay ?s18
           case s18 =>
            refine' aC ?v19
            case v19 =>
             refine' aB ?Uv
             case Uv =>
              refine' af ?Zn ?Zo ?Zp
              case Zp=>exact rfl
              case Zn =>
               exact az
              case Zo =>
               refine' af ?K3 ?K4 ?K5
               case K5=>exact rfl
               case K3 =>
                exact(pv 5)
               case K4 =>
                refine' af ?Ip ?Iq ?Ir
                case Ir=>exact rfl
                case Ip =>
                 exact(pv 8)
                case Iq =>
                 exact ak
   refine⟨_,O,_,O,_,_,O,O,.inl ⟨'b','b'⟩,_,_,O,O,_,_,O,'b','b','b','b',λr1 x1 y1=>⟨_,O,_,_,O,O,'b',_,O,_,O,_,O,?_⟩⟩
   have i0:=abN r1 (show(zs.length:Int)≠0 by omega)
   have i1':=abL r1 (show(0:Int)<(zs.length:Int) by omega)
   obtain⟨i1,e1⟩:=acf i0
   show L0 _ _ _
   rw[show(List.set (start _ _) 5 (some ((λi j=>V.int (i % j)) r1 (zs.length:Int))))=[some (.ref la),some (.int (zs.length:Int)),some (.ref lp),some (.int c),some (.int (deep:Int)),some (.int (i1:Int)),none,none,none,none]from by rw[show((λi j=>V.int (i % j)) r1 (zs.length:Int))=V.int (i1:Int) from congrArg V.int e1];rfl]
   have hi1:i1<zs.length:=by omega
   refine⟨la,lp,i1,fX,cs,zs,A,ps,by show [V.ref la,V.int (r1 % (zs.length:Int)),V.ref lp]++[]=_;rw[e1];rfl,hla,HU,hcl,Nc,hi1,qI,hlt,by omega,λl1 es1 H1 Zq hl1 LD s1=>?_⟩
   dsimp only[bQ]
   have Qm:=s1 _ _ hla
   have Lg:=s1 _ _ qI
   have Qn:=nh.mono s1 HU
   have Ce:(ps.map nV).length=ps.length:=aa9 _
   obtain⟨p0,ps',Qo⟩:∃p0 ps',ps=p0::ps':=by
    cases ps with
    |nil=>exact absurd rfl Ea
    |cons a l=>exact⟨a,l,rfl⟩
   have Zr:=hlt p0 (by rw[Qo];exact abl ..)
   obtain⟨w2,Kc⟩:∃w2,fX[p0]?=some w2:=⟨_,abk 'b'⟩
   obtain⟨x2,Gi,VB⟩:=aI Qn _ _ Kc
   have at2:fu fX (p0:Int)=some w2:=bh Kc
   have pF:fu (ps.map nV) 0=some (nV p0):=by rw[Qo];exact(show fu _ ((0:Nat):Int)=_ from bh rfl)
   refine⟨_,O,lp,O,⟨_,aN.of Lg⟩,λD hD=>?_⟩
   refine bZ (K:=K) (a:=lp) (xs:=ps.map nV) (λj ys τ G=>(∃v,τ=[v,some (.ref la),some (.ref lp)])/\aG H1 G/\G D=some (.lst ys)/\ys.length<=j/\ys.isEmpty=(ps.take j).all λp=>(gi cs zs).all λr=>decide (r.getD p 0=r.getD p0 0)) ⟨⟨_,rfl⟩,ah hD,ai,abh _,rfl⟩ (λj ys τ G _ q=>⟨aN.of (q.2.1 _ _ Lg),q.2.2.1⟩) ?_ ?_
   ·rintro j e1 ys τ G hj ⟨⟨v,rfl⟩,sG,hG,hyl,LH⟩
    obtain⟨p,hp,rfl⟩:=lZ hj
    have hjl:=(abd.mp hp).1
    have hpc:=hlt p (abi hp)
    obtain⟨w1,hw1⟩:∃w1,fX[p]?=some w1:=⟨_,abk 'b'⟩
    obtain⟨x1,MK,Zs⟩:=aI Qn _ _ hw1
    have D9:fu fX (p:Int)=some w1:=bh hw1
    have top:=GG (K:=K) (yg.mono sG Zs) (yg.mono sG VB)
    rw[GN MK Gi]at top
    refine⟨_,O,_,O,la,_,_,_,O,O,aN.of (sG _ _ Qm),D9,_,O,_,O,lp,_,_,_,O,O,aN.of (sG _ _ Lg),pF,la,_,_,_,O,O,aN.of (sG _ _ Qm),at2,_,top,_,O,?_⟩
    rw[bw hp,List.all_append,acO,List.all_nil,Bool.and_true,←LH]
    cases hc:(gi cs zs).all λr=>decide (r.getD p 0=r.getD p0 0) with
    |true=>exact bE ⟨⟨_,rfl⟩,sG,hG,by omega,by rw[Bool.and_true]⟩
    |false =>
     refine fD ⟨_,rfl,hG,abr (show ys.length<=100 by omega) 'c',⟨_,rfl⟩,aL hD sG,ai,by rw[abq];show ys.length+1<=_;omega,?_⟩
     rw[ab6]
     cases ys<;>rfl
   rintro ys τ G ⟨⟨v,rfl⟩,sG,hG,_,LH⟩
   rw[Ce,aby (abh _)]at LH
   have Qp:ys.isEmpty=cM (gi cs zs) ps:=by rw[LH,Qo,vF]
   clear LH
   refine⟨'c',λq0 mj=>⟨_,_,_,O,O,aN.of (ah mj _ _ hG),aN.of ai,?_⟩⟩
   rw[Qp]
   (have u1:=ah (o:=HO.lst []) mj;have g1:=ai (H:=G) (a:=q0) (o:=HO.lst []);generalize upd G q0 (HO.lst [])=G1 at u1 g1⊢)
   dsimp only[bQ]
   have Ob:=s1.trans (sG.trans u1)
   have sx:aG H1 G1:=sG.trans u1
   clear hG hD g1 mj sG u1 at2 VB Gi Kc pF
   obtain⟨al,DZ⟩:∃al,al=cM (gi cs zs) ps:=⟨_,rfl⟩
   rw[←DZ]
   refine cR (t:=qQ _ _ _) (λσ' G'=>G'=G1/\σ'=[some (.ref la),some (.int (zs.length:Int)),some (.ref lp),some (.int c),some (.int (deep:Int)),some (.int (i1:Int)),some (.ref l1),some (.bl al),none,none]/\(al=true->deep<=2)) ?_ (λgo=>?_)
   rotate_left
   ·have leaf:∀(h:al=true),∀(l:Addr),G1 l=none->∀t,(upd G1 l (.lst (ps.map nV))) t=none->Q (.ref t) (upd (upd G1 l (.lst (ps.map nV))) t (.tup [.str 'd',.ref l])):=λh l hl t ht=>by
     have sl:=ah (o:=HO.lst (ps.map nV)) hl
     have st:=ah (o:=HO.tup [.str 'd',.ref l]) ht
     refine k (.leaf ps) (.ref t) _ (AG.MI (by rw[←DZ];exact h)) ?_ (Ob.trans (sl.trans st))
     have q:∃t' l',V.ref t=.ref t'/\H t'=none/\H l'=none/\(upd (upd G1 l (.lst (ps.map nV))) t (.tup [.str 'd',.ref l])) t'=some (.tup [.str 'd',.ref l'])/\(upd (upd G1 l (.lst (ps.map nV))) t (.tup [.str 'd',.ref l])) l'=some (.lst (ps.map nV)):=⟨t,l,rfl,Ob.free (sl.free ht),Ob.free hl,ai,st _ _ ai⟩
     generalize (d+1-1)=dd
     cases dd<;>exact q
    have IA:=sx _ _ Lg
    cases al with
    |false=>exact⟨_,rfl,_,rfl,bE (go _ _ ⟨rfl,rfl,λe=>nomatch e⟩)⟩
    |true =>
     have leaf:=leaf rfl
     by_cases c5:2<deep
     ·refine⟨_,O,_,O,fD (⟨_,O,_,_,O,O,_,O,xB 'b' (fD (⟨_,O,_,_,O,.inl (aN.of IA),?_⟩))⟩)⟩
      exact λl hl=>⟨(by show 2<=sizeLine;decide),λt ht=>leaf l hl t ht⟩
     ·refine⟨_,O,_,O,fD (⟨_,O,_,_,O,O,_,O,jk 'b' (⟨_,O,_,O,_,_,O,O,.inl ⟨'b','b'⟩,_,_,O,O,_,_,O,'b','b','b','b',λr2 x2 y2=>⟨_,_,O,O,'b',_,_,O,O,_,O,?_⟩⟩)⟩)⟩
      refine NT (λc6=>?_) (λc6=>go _ _ ⟨rfl,rfl,λ_=>by omega⟩)
      exact⟨_,O,lp,_,O,.inl (aN.of IA),λl hl=>⟨(by show 2<=sizeLine;decide),λt ht=>leaf l hl t ht⟩⟩
   rintro σ' G' ⟨rfl,rfl,Og⟩
   have zW:=sx _ _ Qm
   have IA:=sx _ _ Lg
   have Ff:=nh.mono sx Qn
   have sHG:=Ob
   have toE:∀{A H:Hp}{es:List V}{qs:List (List Nat)},bg A H es qs->bg GJ H es qs:=λh=>aQ (λ_ _ ⟨a,e,_,h⟩=>⟨a,e,rfl,h⟩) h
   refine cR (t:=qQ _ _ _) (λσ' G2=>aG G' G2/\∃(i:Nat)(l:Addr)(es:List V),σ'=[some (.ref la),some (.int (zs.length:Int)),some (.ref lp),some (.int c),some (.int (deep:Int)),some (.int (i:Int)),some (.ref l),some (.bl al),none,none]/\i<zs.length/\G2 l=some (.lst es)/\bg GJ G2 es (aE ((gi cs zs).getD i []) ps)/\(al=false->1<(aE ((gi cs zs).getD i []) ps).length)) ?_ (λgo=>?_)
   rotate_left
   ·have aa4:=LD.length
    have Uw:=uu (r:=(gi cs zs).getD i1 []) Ea
    have no:=λh=>go _ _ ⟨aG.refl _,i1,l1,es1,rfl,hi1,sx _ _ hl1,toE (bg.mono sx LD),h⟩
    have Ux:=sx _ _ hl1
    by_cases c5:es1.length=1
    rotate_left
    ·refine⟨_,O,l1,es1,O,.inl (aN.of Ux),O,_,O,EB 'b' (bE (no λ_=>by omega))⟩
    refine⟨_,O,l1,es1,O,.inl (aN.of Ux),O,_,O,QT 'b' ?_⟩
    by_cases IB:al=true
    ·exact⟨_,O,_,O,WG IB (no λh=>by rw[IB]at h;cases h)⟩
    have IB:al=false:=by simpa using IB
    refine⟨_,O,_,O,WH IB (⟨_,O,_,O,by omega,by omega,λD hD=>?_⟩)⟩
    have nal:¬cM (gi cs zs) ps=true:=by rw[←DZ,IB];decide
    refine qq (λj ys τ J=>(∃v,τ=[v,some (.ref la),some (.ref lp)])/\aG G' J/\J D=some (.lst ys)/\∃ks:List Nat,ys=ks.map nV/\ks.length<=j/\(∀n∈ks,n<zs.length/\1<(aE ((gi cs zs).getD n []) ps).length)/\((∃n,n<j/\1<(aE ((gi cs zs).getD n []) ps).length)->ks≠[])) ⟨⟨_,rfl⟩,ah hD,ai,[],rfl,abh _,(λn h=>nomatch h),λ⟨n,h,_⟩=>absurd h (Nat.not_lt_zero _)⟩ (λj ys τ J _ q=>q.2.2.1) ?_ ?_
    ·rintro j ys τ J hj ⟨⟨v,rfl⟩,sJ,hJ,ks,rfl,kl,ka,kn⟩
     have hj:j<zs.length:=by simpa using hj
     refine⟨_,O,_,O,_,O,la,lp,j,fX,cs,zs,A,ps,by rw[Int.zero_add];rfl,sJ _ _ zW,nh.mono sJ Ff,hcl,Nc,hj,sJ _ _ IA,hlt,by omega,λl es J2 GS hl pa s2=>?_⟩
     have Vu:=pa.length
     refine⟨l,es,O,.inl (aN.of hl),_,_,O,O,_,O,NT (λc6=>?_) (λc6=>?_)⟩
     ·refine⟨_,O,s2 _ _ hJ,by rw[aa9];exact abr (show ks.length<=100 by omega) 'c',⟨_,O⟩,aL hD (sJ.trans s2),ai,ks++[j],?_,by rw[abq];show ks.length+1<=_;omega,λn hn=>?_,λ_ q=>by simp at q⟩
      ·rw[abw,Int.zero_add];rfl
      ·rcases abG.mp hn with q|q
       ·exact ka n q
       ·rw[abf.mp q];exact⟨hj,by omega⟩
     ·refine⟨⟨_,rfl⟩,sJ.trans s2,s2 _ _ hJ,ks,rfl,by omega,ka,λ⟨n,h1,h2⟩=>?_⟩
      by_cases e:n=j
      ·rw[e]at h2;exact absurd h2 'b'
      ·exact kn ⟨n,by omega,h2⟩
    rintro ys τ J ⟨⟨v,rfl⟩,sJ,hJ,ks,rfl,kl,ka,kn⟩
    obtain⟨n5,n6,n7⟩:=Br nal
    have kn:=kn ⟨n5,by simpa [Vx]using n6,n7⟩
    obtain⟨k0,ks',rfl⟩:∃k0 ks',ks=k0::ks':=by
     cases ks with
     |nil=>exact absurd rfl kn
     |cons a l=>exact⟨a,l,rfl⟩
    obtain⟨k1,k2⟩:=ka k0 (abl ..)
    have pF:fu ((k0::ks').map nV) 0=some (nV k0):=(show fu _ ((0:Nat):Int)=_ from bh rfl)
    refine⟨D,_,_,_,O,O,aN.of hJ,pF,?_⟩
    dsimp only[bQ]
    refine⟨_,O,_,O,_,O,la,lp,k0,fX,cs,zs,A,ps,O,sJ _ _ zW,nh.mono sJ Ff,hcl,Nc,k1,sJ _ _ IA,hlt,by omega,λl es J2 GS hl pa s2=>?_⟩
    exact go _ _ ⟨sJ.trans s2,k0,l,es,rfl,k1,hl,toE pa,λ_=>k2⟩
   rintro σ' G2 ⟨s2,i,l,es,rfl,hi,hl,pa,Uy⟩
   have Zt:=sHG.trans s2
   have Zu:=s2 _ _ zW
   have aa5:=s2 _ _ IA
   have Zv:=nh.mono s2 Ff
   have Vu:=pa.length
   have good:=cD (r:=(gi cs zs).getD i []) (ps:=ps)
   have Oc:∀q∈aE ((gi cs zs).getD i []) ps,q.length<=ps.length:=λq hq=>jQ hq
   have Uz:al=false->∀q∈aE ((gi cs zs).getD i []) ps,q.length<ps.length:=λh q hq=>KA (Uy h) hq
   have Uw:=uu (r:=(gi cs zs).getD i []) Ea
   have Qg:=iw (r:=(gi cs zs).getD i []) (ps:=ps)
   have aa6:=iw (r:=(gi cs zs).getD i []) (ps:=ps)
   have fin:∀bs:List PT,bs.length=(aE ((gi cs zs).getD i []) ps).length->(∀(j:Nat) q b,(aE ((gi cs zs).getD i []) ps)[j]?=some q->bs[j]?=some b->AG (gi cs zs) (d-1) q b)->1<=d->AG (gi cs zs) (d+1-1) ps (.ask i bs):=λbs h1 h2 hd=>by
    obtain⟨e,rfl⟩:∃e,d=e+1:=⟨d-1,by omega⟩
    exact⟨by omega,h1,λq=>by rw[q,List.length_nil]at h1;omega,h2⟩
   generalize aE ((gi cs zs).getD i []) ps=qs at pa Vu good Oc Uz Uw Qg fin
   refine⟨by decide,λB hB=>?_⟩
   have D7:(upd G2 B (.lst [])) B≠none:=by rw[ai];intro q;cases q
   have sB:=ah (o:=HO.lst []) hB
   have zc:=ai (H:=G2) (a:=B) (o:=HO.lst [])
   have hA2:∀b,(upd G2 B (.lst [])) b=none->H b=none:=λb hb=>Zt.free (sB.free hb)
   generalize Xo:upd G2 B (.lst [])=A0 at D7 hA2 sB zc⊢
   dsimp only[bQ]
   have hBH:=Zt.free hB
   refine⟨_,O,l,es,O,.inl (aN.of (sB _ _ hl)),_,O,by omega,by omega,?_⟩
   refine je (λj σ J=>aG G2 J/\(∀b,A0 b≠none->J b≠none)/\∃(ys:List V)(us:List PT)(v:Option V),σ=[some (.ref la),some (.int (zs.length:Int)),some (.ref lp),some (.int c),some (.int (deep:Int)),some (.int (i:Int)),some (.ref l),some (.bl al),some (.ref B),v]/\J B=some (.lst ys)/\Paired (eU A0 J (d-1)) ys us/\us.length=j/\∀(n:Nat) q b,qs[n]?=some q->us[n]?=some b->AG (gi cs zs) (d-1) q b) ⟨sB,λb h=>h,[],[],_,rfl,zc,.nil,rfl,λn q b _ h=>by simp at h⟩ ?_ ?_
   ·rintro j σ J hj ⟨sJ,live,ys,us,v,rfl,hJ,pu,UA,hok⟩
    have hj:j<es.length:=by simpa using hj
    obtain⟨w1,hw1⟩:∃w1,es[j]?=some w1:=⟨_,abk hj⟩
    obtain⟨q,hq,b,rfl,_,hbv⟩:=aI pa j w1 hw1
    have xG:=abi hq
    obtain⟨qn,qs'⟩:=good q xG
    have aj:fu es (0+(j:Int))=some (.ref b):=by rw[Int.zero_add];exact bh hw1
    have pul:=pu.length
    have q1:=Oc q xG
    have hgq:QY (gi cs zs) q (deep+1)<d:=by
     unfold QY at Q3⊢
     cases zX:al with
     |true =>
      rw[abj (by rw[←DZ];exact zX)]at Q3
      rw[abj (HV (by rw[←DZ];exact zX) qs')]
      have:=Og zX;omega
     |false =>
      rw[abb (by rw[←DZ,zX];decide)]at Q3
      have:=Uz zX q xG
      have mj:=abX.mpr qn
      split<;>omega
    have VC:=sJ _ _ hl
    dsimp only[bQ]
    refine⟨_,O,.inl ⟨O,⟨_,aN.of hJ⟩⟩,_,O,_,O,_,O,_,O,_,_,_,_,O,O,aN.of VC,aj,_,O,_,O,_,_,O,O,.inl ⟨'b','b'⟩,_,_,O,O,_,_,O,O,_,O,_,_,O,O,?_⟩
    refine⟨la,b,c+7*(0+(j:Int))+3,deep+1,fX,cs,zs,A,q,O,sJ _ _ Zu,nh.mono sJ Zv,hcl,Nc,hz1,sJ _ _ hbv,λp hp=>hlt p (qs' p hp),qn,by omega,by omega,by omega,by omega,hgq,λu2 v2 J2 Zw tr2 s2'=>?_⟩
    have UB:=s2' _ _ hJ
    refine⟨B,ys,_,O,O,UB,abr (show ys.length<=100 by omega) 'c',aL hB (sJ.trans s2'),λb hb=>?_,ys++[v2],us++[u2],_,O,ai,?_,by rw[abq,UA];rfl,λn q' b' hq' hb'=>?_⟩
    ·by_cases e:b=B
     ·rw[e,ai];intro z;cases z
     ·rw[aH e]
      cases h5:J b with
      |none=>exact absurd h5 (live b hb)
      |some o=>rw[s2' _ _ h5];intro z;cases z
    ·refine cu (aQ (λ_ _ h=>eU.set D7 (eU.mono s2' h)) pu) (.cons (eU.set D7 (eU.old (λb hb=>?_) tr2)) .nil)
     exact Classical.byContradiction λh=>live b h hb
    ·by_cases e:n<us.length
     ·rw[aco e]at hb'
      exact hok n q' b' hq' hb'
     ·have hn:=(abd.mp hb').1
      rw[abq]at hn
      have hn:n=j:=by simp at hn;omega
      subst hn
      rw[hq]at hq';cases hq'
      rw[acG 'b',UA,Nat.sub_self]at hb'
      cases hb'
      exact Zw
   rintro σ J ⟨sJ,live,ys,us,v,rfl,hJ,pu,UA,hok⟩
   have UA:us.length=es.length:=by simpa using UA
   have hd1:1<=d:=by
    refine Nat.pos_of_ne_zero λe0=>?_
    unfold QY at Q3
    cases zX:al with
    |true =>
     rw[abj (by rw[←DZ];exact zX)]at Q3
     have:=Og zX;omega
    |false =>
     rw[abb (by rw[←DZ,zX];decide)]at Q3
     have:=Uy zX
     omega
   have sHJ:=Zt.trans sJ
   refine⟨_,O,_,O,'h',λt ht=>?_⟩
   have st:=ah (o:=HO.tup [.str 'e',.int (i:Int),.ref B]) ht
   refine k (.ask i us) _ _ (fin us 'b' hok hd1) ?_ (sHJ.trans st)
   obtain⟨e5,rfl⟩:∃e5,d=e5+1:=⟨d-1,by omega⟩
   exact⟨t,B,ys,O,sHJ.free ht,hBH,ai,st _ _ hJ,aQ (λ_ _ h=>eU.old hA2 (eU.mono st h)) pu⟩
theorem zY:zzz T eH 8 46 ["_law_answers","_law_many","_law_places","_law_cell","_law_deep_here"] (iF K 7):=uS T 7
inductive jd(K:W.Frag)(D:Nat)(vs:List V)(H:Hp)(Q:VK)(E_:XK):Prop where
 |mk (A:Hp) (d:Nat) (v:V) (u:PT):(vs=[v])->(d<D)->(eU A H d v u)->(neT d u)->(∀H',aG H H'->Q (.int (mh d u:Nat)) H')->jd K D vs H Q E_
theorem wU:∀d:Nat,bu P w K mg base eH (0+1*d) (aM 47) (aR 47) ["_law_tree"] (jd K d):=by
 intro d
 induction d with
 |zero=>exact⟨λvs H Q E h=>by exfalso;obtain⟨A,d,v,u,rfl,hd,_⟩:=h;omega,λA outer s H args us vs Q E _ _ _ _ h=>by exfalso;obtain⟨A,d,v,u,rfl,hd,_⟩:=h;omega⟩
 |succ d ih =>
  have oF:=ih
  show bu P w K mg base eH (0+1*d+1) (aM 47) (aR 47) ["_law_tree"] (jd K (d+1))
  refine T.nZ.ok By 'g' 'a'
  ·obtain⟨A,d,v,u,rfl,_⟩:=h;rfl
  ·have Fc:=hr
   have hr:dM 0 _:=hr.mono 'b'
   obtain⟨A,e,v,u,rfl,hd,tr,ne,k⟩:=h
   refine⟨_,(aq (aO (cC aU (jK K (pv 0) au) az) (ay (aC au)) aD)
   (ay (aC (aF bV au (gv (AB K rfl rfl) T.E7 (af (di rfl (show aX ["_law_tree"] (aA jO) ["_law_branch"] 1 [] _ from zp) (bL K rfl (jK K (pv 0) au)) (λ_ _ _ _=>(e7 0 QW)) (λ_ _ _ _=>dh) (λ_ _ _ _=>(dR oF Fc T.vN T.nZ.kp T.vM (af (pv 0) ak) (hkk:=abh _)))) ak)))))),?_⟩
   cases u with
   |leaf ps =>
    have tr:∃t l,v=.ref t/\A t=none/\A l=none/\H t=some (.tup [.str 'd',.ref l])/\H l=some (.lst (ps.map nV)):=by cases e<;>exact tr
    obtain⟨t,l,rfl,_,_,ht,hl⟩:=tr
    have k:∀H',aG H H'->Q (.int ((0:Nat):Int)) H':=by cases e<;>exact k
    refine⟨_,O,_,_,_,_,O,O,bD.of ht,O,O,_,O,xB rfl (k _ (aG.refl _))⟩
   |ask i bs =>
   cases e with
   |zero=>exact tr.elim
   |succ e =>
   obtain⟨t,l,es,rfl,_,_,ht,hl,pr⟩:=tr
   obtain⟨n1,n2,n3⟩:=ne
   have Nb:=pr.length
   have n4:¬(V.str 'e'=V.str 'd'):=by decide +kernel
   refine⟨_,O,_,_,_,_,O,O,bD.of ht,O,O,_,O,jk n4 (⟨_,O,_,_,_,_,O,O,bD.of ht,O,_,O,⟨_,aN.of hl⟩,λD hD=>?_⟩)⟩
   refine bZ (K:=K) (a:=l) (xs:=es) (λj ys τ G=>(∃v,τ=[v])/\aG H G/\G D=some (.lst ys)/\ys=((bs.take j).map (mh e)).map λn:Nat=>V.int n) ⟨⟨_,rfl⟩,ah hD,ai,rfl⟩ (λj ys τ G _ q=>⟨aN.of (q.2.1 _ _ hl),q.2.2.1⟩) ?_ ?_
   ·rintro j e1 ys τ G hj ⟨⟨v,rfl⟩,sG,hG,rfl⟩
    obtain⟨b,hb,tb⟩:=aI pr j e1 hj
    refine o7 ?_
    refine⟨_,O,A,e,e1,b,O,by omega,eU.mono sG tb,n3 b (abi hb),λG2 s2=>?_⟩
    refine⟨s2 _ _ hG,?_,⟨_,O⟩,aL hD (sG.trans s2),ai,?_⟩
    ·rw[aa9,aa9,abJ];exact abr (show min j bs.length<=100 by omega) 'c'
    ·rw[bw hb,abw,abw];rfl
   rintro ys τ G ⟨⟨v,rfl⟩,sG,hG,rfl⟩
   rw[Nb,aby (abh _)]at hG
   refine⟨D,bs.map (mh e),O,aN.of hG,by simpa using n1,λn hn hm=>?_⟩
   have en:=GH hn hm
   subst en
   have k:∀H',aG H H'->Q (.int ((1+Dp (bs.map (mh e)):Nat):Int)) H':=k
   rw[Int.natCast_add]at k
   exact⟨_,_,O,O,k G sG⟩
theorem Cf:zzz T eH 9 47 ["_law_tree"] (jd K 9):=wU T 9
inductive jH(K:W.Frag)(vs:List V)(H:Hp)(Q:VK)(E_:XK):Prop where
 |mk (A:Hp) (R:List (List Nat)) (ps:List Nat) (t l:Addr) (n:Int):(Jb A H)->(vs=[.ref t,.int n])->(H t=some (.tup [.str 'd',.ref l]))->(H l=some (.lst (ps.map nV)))->(ps≠[])->(ps.Nodup)->(ps.length<=20)->(∀v H',iI R ps 3 (br A H') v->aG H H'->Q v H')->jH K vs H Q E_
theorem qN:zzz T eH 1 48 ["_law_tree","_law_x"] (jH K):=by
 refine T.jV.ok bP 'g' 'a'
 ·obtain⟨A,R,ps,t,l,n,_,rfl,_⟩:=h;rfl
 ·have hu:=bx hr
  obtain⟨A,R,ps,t,l,n,UC,rfl,ht,hl,Ea,hnd,hpl,k⟩:=h
  have Ce:(ps.map nV).length=ps.length:=aa9 _
  refine'⟨_,?aa,?bb⟩
  case aa =>
   refine' aq ?s0 ?r0
   case s0 =>
    exact(dj 2 bP.nd (jK K (pv 0) au))
   case r0 =>
    refine' aq ?s1 ?r1
    case s1 =>
     refine' dj 3 bP.nd ?v2
     case v2 =>
      refine' aW ?a3
      case a3 =>
       refine' af ?x4 ?y4 ?z4
       case z4=>exact rfl
       case x4 =>
        refine' aB ?a5
        case a5 =>
         refine' af ?x6 ?y6 ?z6
         case z6=>exact rfl
         case x6 =>
          exact az
         case y6 =>
          refine' af ?x7 ?y7 ?z7
          case z7=>exact rfl
          case x7 =>
           exact(cG (dD K rfl) (pv 2) (cJ au) fO)
          case y7 =>
           exact ak
       case y4 =>
        refine' af ?x8 ?y8 ?z8
        case z8=>exact rfl
        case x8 =>
         refine' aB ?a9
         case a9 =>
          refine' af ?M6 ?M7 ?M8
          case M8=>exact rfl
          case M6 =>
           exact az
          case M7 =>
           refine' af ?Qa ?Qc ?Qd
           case Qd=>exact rfl
           case Qa =>
            exact(aF ef (pv 2) (cG (dD K rfl) (pv 2) (cJ (vj nA au)) fO))
           case Qc =>
            exact ak
        case y8 =>
         refine' af ?M3 ?M4 ?M5
         case M5=>exact rfl
         case M3 =>
          refine' aB ?Uo
          case Uo =>
           refine' af ?Up ?Uq ?Ur
           case Ur=>exact rfl
           case Up =>
            exact az
           case Uq =>
            refine' af ?K0 ?K1 ?K2
            case K2=>exact rfl
            case K0 =>
             exact(EG (jj K rfl) T.n8 (af (pv 2) ak))
            case K1 =>
             exact ak
         case M4 =>
          refine' af ?Il ?Im ?Io
          case Io=>exact rfl
          case Il =>
           refine' aB ?Zx
           case Zx =>
            refine' af ?Zy ?Zz ?ZA
            case ZA=>exact rfl
            case Zy =>
             exact az
            case Zz =>
             refine' af ?Nd ?Nf ?Ng
             case Ng=>exact rfl
             case Nd =>
              exact(EG (cy K rfl) T.fh (af (pv 2) ak))
             case Nf =>
              exact ak
          case Im =>
           exact ak
    case r1 =>
     refine' aq ?s20 ?r20
     case s20 =>
      refine' dj 3 bP.nd ?v21
      case v21 =>
       refine' aF ef ?T6 ?Tt
       case T6 =>
        exact(pv 3)
       case Tt =>
        refine' aW ?ZC
        case ZC =>
         refine' af ?x24 ?y24 ?z24
         case z24=>exact rfl
         case x24 =>
          refine' aB ?Tu
          case Tu =>
           refine' af ?K6 ?K7 ?K8
           case K8=>exact rfl
           case K6 =>
            exact az
           case K7 =>
            refine' af ?P4 ?P5 ?P6
            case P6=>exact rfl
            case P4 =>
             exact(aF ef (pv 2) (aW (af au ak)))
            case P5 =>
             exact ak
         case y24 =>
          refine' af ?Xk ?Xl ?Xm
          case Xm=>exact rfl
          case Xk =>
           refine' aB ?P7
           case P7 =>
            refine' af ?K9 ?M0 ?M1
            case M1=>exact rfl
            case K9 =>
             exact az
            case M0 =>
             refine' af ?N9 ?P8 ?P9
             case P9=>exact rfl
             case N9 =>
              exact(aF ef (aW (af gw ak)) (cG (dD K rfl) (pv 2) (cJ au) fO))
             case P8 =>
              exact ak
          case Xl =>
           refine' af ?PM ?PN ?PR
           case PR=>exact rfl
           case PM =>
            refine' aB ?ZD
            case ZD =>
             refine' af ?x34 ?y34 ?z34
             case z34=>exact rfl
             case x34 =>
              exact az
             case y34 =>
              refine' af ?Sw ?Sx ?Sy
              case Sy=>exact rfl
              case Sw =>
               exact(aF ef (aW (af az ak)) (cG (dD K rfl) (pv 2) (cJ au) fO))
              case Sx =>
               exact ak
           case PN =>
            refine' af ?MX ?MY ?MZ
            case MZ=>exact rfl
            case MX =>
             refine' aB ?ZE
             case ZE =>
              refine' af ?SO ?SQ ?SR
              case SR=>exact rfl
              case SO =>
               exact az
              case SQ =>
               exact ak
            case MY =>
             exact ak
     case r20 =>
      refine' aq ?W8 ?r39
      case W8 =>
       refine' dj 3 bP.nd ?W9
       case W9 =>
        refine' aF ef ?Sz ?ZF
        case Sz =>
         exact(pv 3)
        case ZF =>
         refine' aW ?ZG
         case ZG =>
          refine' af ?SG ?SH ?SI
          case SI=>exact rfl
          case SG =>
           refine' aW ?UD
           case UD =>
            refine' af ?ZH ?ZI ?ZJ
            case ZJ=>exact rfl
            case ZH =>
             exact az
            case ZI =>
             refine' af ?TJ ?TL ?TM
             case TM=>exact rfl
             case TJ =>
              exact(EG (cy K rfl) T.fh (af (pv 2) ak))
             case TL =>
              exact ak
          case SH =>
           refine' af ?PU ?PV ?PX
           case PX=>exact rfl
           case PU =>
            exact gw
           case PV =>
            refine' af ?Xb ?Xc ?Xd
            case Xd=>exact rfl
            case Xb =>
             exact au
            case Xc =>
             refine' af ?x49 ?y49 ?z49
             case z49=>exact rfl
             case x49 =>
              exact az
             case y49 =>
              refine' af ?SK ?SM ?SN
              case SN=>exact rfl
              case SK =>
               refine' aB ?UE
               case UE =>
                exact ak
              case SM =>
               refine' af ?ZK ?ZL ?ZN
               case ZN=>exact rfl
               case ZK =>
                refine' aB ?Q4
                case Q4 =>
                 refine' af ?TN ?TQ ?TR
                 case TR=>exact rfl
                 case TN =>
                  exact az
                 case TQ =>
                  refine' af ?T7 ?T8 ?T9
                  case T9=>exact rfl
                  case T7 =>
                   exact(EG (cy K rfl) T.fh (af (pv 2) ak))
                  case T8 =>
                   refine' af ?Ua ?Ub ?Uc
                   case Uc=>exact rfl
                   case Ua =>
                    refine' aW ?Ye
                    case Ye =>
                     exact ak
                   case Ub =>
                    exact ak
               case ZL =>
                exact ak
      case r39 =>
       refine' aq ?s58 ?r58
       case s58 =>
        refine' dj 3 bP.nd ?v59
        case v59 =>
         refine' aF ef ?TY ?b60
         case TY =>
          exact(pv 3)
         case b60 =>
          refine' aW ?a61
          case a61 =>
           refine' af ?Qj ?Qk ?Ql
           case Ql=>exact rfl
           case Qj =>
            refine' aB ?ZO
            case ZO =>
             refine' af ?ZQ ?ZR ?ZS
             case ZS=>exact rfl
             case ZQ =>
              exact az
             case ZR =>
              refine' af ?Yo ?Yp ?Yq
              case Yq=>exact rfl
              case Yo =>
               exact(di rfl (show aX ["_law_tree","_law_x","_law_places","_law_some_here"] (aA ff) ["_law_place"] 1 [] _ from zp) (bL K rfl (pv 2)) (λ_ _ _ _=>(e7 0 QW)) (λ_ _ _ _=>dh) (λ_ _ _ _=>(AD aU (pv 0) au)))
              case Yp =>
               exact ak
           case Qk =>
            refine' af ?Ud ?Ue ?Ug
            case Ug=>exact rfl
            case Ud =>
             refine' aB ?a67
             case a67 =>
              refine' af ?ZT ?ZU ?ZV
              case ZV=>exact rfl
              case ZT =>
               exact az
              case ZU =>
               refine' af ?ZW ?ZX ?ZY
               case ZY=>exact rfl
               case ZW =>
                exact au
               case ZX =>
                refine' af ?ZZ ?y70 ?z70
                case z70=>exact rfl
                case ZZ =>
                 refine' aW ?Yr
                 case Yr =>
                  exact ak
                case y70 =>
                 exact ak
            case Ue =>
             refine' af ?Uh ?Ui ?Uj
             case Uj=>exact rfl
             case Uh =>
              refine' aB ?a73
              case a73 =>
               refine' af ?Z0 ?Z1 ?Z2
               case Z2=>exact rfl
               case Z0 =>
                exact az
               case Z1 =>
                refine' af ?Yv ?Yw ?Yx
                case Yx=>exact rfl
                case Yv =>
                 exact(aF ef (aW (af (vj nA au) ak)) (cG (dD K rfl) (pv 2) (cJ au) fO))
                case Yw =>
                 exact ak
             case Ui =>
              exact ak
       case r58 =>
        refine' aq ?s76 ?r76
        case s76 =>
         exact(dj 3 bP.nd (aF ef (aF ef (pv 3) (aW (af (aB (af az (af gw ak))) (af (aB (af az (af au ak))) ak)))) (cG (dD K rfl) (aW (af (aB (af az (af (Hy K rfl (pv 2) (vj nA au)) ak))) ak)) fO (cJ (aF tX (gv (aK K rfl) T.bB (af (pv 2) ak)) au)))))
        case r76 =>
         refine' ay ?YB
         case YB =>
          exact(aC (fM K (pv 3) (aF bq (pv 1) (gv (aK K rfl) T.bB (af (pv 3) ak)))))
  have D9:fu [V.str 'd',V.ref l] 1=some (.ref l):=rfl
  refine⟨_,O,_,_,_,_,O,O,bD.of ht,D9,?_⟩
  dsimp only[bQ]
  have hvn:ps.map nV≠[]:=λq=>Ea (by simpa using q)
  have c1:=Dr (ps.map nV)
  have cL:=Ds hvn
  obtain⟨m1,e1,_,_⟩:=rm nV ps (some 1) none
  obtain⟨mL,eL,_,_⟩:=rm nV ps (some (-1)) none
  rw[e1,aa9,Ce]at c1
  rw[eL,aa9]at cL
  have pp:=abX.mpr Ea
  refine⟨_,O,_,O,_,_,O,aN.of hl,λa1 h1=>⟨(by show(2:Nat)<=sizeLine;decide),λt1 j1=>⟨_,O,_,O,_,O,_,O,_,_,O,aN.of (ah j1 _ _ (ah h1 _ _ hl)),λa2 h2=>⟨_,_,_,_,O,O,(ah h2 _ _ (ah j1 _ _ (ah h1 _ _ hl))),ai,?_,λa3 h3=>⟨(by show(2:Nat)<=sizeLine;decide),λt2 j2=>⟨_,O,_,_,O,.inl (⟨aN.of (ah j2 _ _ (ah h3 _ _ (ah h2 _ _ (ah j1 _ _ (ah h1 _ _ hl))))),λa4 h4=>⟨(by show(2:Nat)<=sizeLine;decide),λt3 j3=>⟨_,O,_,_,O,.inl (aN.of (ah j3 _ _ (ah h4 _ _ (ah j2 _ _ (ah h3 _ _ (ah h2 _ _ (ah j1 _ _ (ah h1 _ _ hl)))))))),λa5 h5=>⟨(by show(2:Nat)<=sizeLine;decide),λt4 j4=>⟨(by show(4:Nat)<=sizeLine;decide),λX1 Cg=>⟨_,O,_,O,'c',?_⟩⟩⟩⟩⟩⟩)⟩⟩⟩⟩⟩⟩
  ·have:=gn (ps.map nV) (some (-1)) none
   exact abv (show _<=100 by omega) 'c'
  (have u1:=ah (o:=HO.lst (aZ (List.map nV ps) (some 1) none)) h1;have g1:=ai (H:=H) (a:=a1) (o:=HO.lst (aZ (List.map nV ps) (some 1) none));generalize upd H a1 (HO.lst (aZ (List.map nV ps) (some 1) none))=G1 at u1 g1 j1 h2 h3 j2 h4 j3 h5 j4 Cg⊢;have u2:=ah (o:=HO.tup [V.str 'd',V.ref a1]) j1;have g2:=ai (H:=G1) (a:=t1) (o:=HO.tup [V.str 'd',V.ref a1]);generalize upd G1 t1 (HO.tup [V.str 'd',V.ref a1])=G2 at u2 g2 h2 h3 j2 h4 j3 h5 j4 Cg⊢;have u3:=ah (o:=HO.lst (aZ (List.map nV ps) (some (-1)) none)) h2;have g3:=ai (H:=G2) (a:=a2) (o:=HO.lst (aZ (List.map nV ps) (some (-1)) none));generalize upd G2 a2 (HO.lst (aZ (List.map nV ps) (some (-1)) none))=G3 at u3 g3 h3 j2 h4 j3 h5 j4 Cg⊢;have u4:=ah (o:=HO.lst (List.map nV ps++aZ (List.map nV ps) (some (-1)) none)) h3;have g4:=ai (H:=G3) (a:=a3) (o:=HO.lst (List.map nV ps++aZ (List.map nV ps) (some (-1)) none));generalize upd G3 a3 (HO.lst (List.map nV ps++aZ (List.map nV ps) (some (-1)) none))=G4 at u4 g4 j2 h4 j3 h5 j4 Cg⊢;have u5:=ah (o:=HO.tup [V.str 'd',V.ref a3]) j2;have g5:=ai (H:=G4) (a:=t2) (o:=HO.tup [V.str 'd',V.ref a3]);generalize upd G4 t2 (HO.tup [V.str 'd',V.ref a3])=G5 at u5 g5 h4 j3 h5 j4 Cg⊢;have u6:=ah (o:=HO.tup (List.map nV ps)) h4;have g6:=ai (H:=G5) (a:=a4) (o:=HO.tup (List.map nV ps));generalize upd G5 a4 (HO.tup (List.map nV ps))=G6 at u6 g6 j3 h5 j4 Cg⊢;have u7:=ah (o:=HO.tup [V.str 'd',V.ref a4]) j3;have g7:=ai (H:=G6) (a:=t3) (o:=HO.tup [V.str 'd',V.ref a4]);generalize upd G6 t3 (HO.tup [V.str 'd',V.ref a4])=G7 at u7 g7 h5 j4 Cg⊢;have u8:=ah (o:=HO.lst (List.map nV ps)) h5;have g8:=ai (H:=G7) (a:=a5) (o:=HO.lst (List.map nV ps));generalize upd G7 a5 (HO.lst (List.map nV ps))=G8 at u8 g8 j4 Cg⊢;have u9:=ah (o:=HO.tup [V.str ("Leaf":Str),V.ref a5]) j4;have g9:=ai (H:=G8) (a:=t4) (o:=HO.tup [V.str ("Leaf":Str),V.ref a5]);generalize upd G8 t4 (HO.tup [V.str ("Leaf":Str),V.ref a5])=G9 at u9 g9 Cg⊢;have uA:=ah (o:=HO.lst [V.ref t1,V.ref t2,V.ref t3,V.ref t4]) Cg;have gA:=ai (H:=G9) (a:=X1) (o:=HO.lst [V.ref t1,V.ref t2,V.ref t3,V.ref t4]);generalize upd G9 X1 (HO.lst [V.ref t1,V.ref t2,V.ref t3,V.ref t4])=GA at uA gA⊢)
  have sA:aG H GA:=u1.trans (u2.trans (u3.trans (u4.trans (u5.trans (u6.trans (u7.trans (u8.trans (u9.trans uA))))))))
  have g1:=hid (A:=A) (UC _ h1) g1
  have eF:=UC.mono u1
  have g2:=hid (A:=A) (eF _ j1) g2
  have eG:=eF.mono u2
  have g3:=hid (A:=A) (eG _ h2) g3
  have eS:=eG.mono u3
  have g4:=hid (A:=A) (eS _ h3) g4
  have fT:=eS.mono u4
  have g5:=hid (A:=A) (fT _ j2) g5
  have fK:=fT.mono u5
  have g6:=hid (A:=A) (fK _ h4) g6
  have fL:=fK.mono u6
  have g7:=hid (A:=A) (fL _ j3) g7
  have gb:=fL.mono u7
  have g8:=hid (A:=A) (gb _ h5) g8
  have mP:=gb.mono u8
  have g9:=hid (A:=A) (mP _ j4) g9
  have IC:=mP.mono u9
  have UG:=IC.mono uA
  have u1:=aJ (A:=A) u1
  have u2:=aJ (A:=A) u2
  have u3:=aJ (A:=A) u3
  have u4:=aJ (A:=A) u4
  have u5:=aJ (A:=A) u5
  have u6:=aJ (A:=A) u6
  have u7:=aJ (A:=A) u7
  have u8:=aJ (A:=A) u8
  have u9:=aJ (A:=A) u9
  have uA:=aJ (A:=A) uA
  clear eF eG eS fT fK fL gb mP IC
  have b1:iI R ps 3 (br A GA) (.ref t1):=by
   have s:=u3.trans (u4.trans (u5.trans (u6.trans (u7.trans (u8.trans (u9.trans uA))))))
   rw[e1]at g1
   exact rB (s _ _ g2) ((u2.trans s) _ _ g1) (Bs (by unfold CF;rw[aa9];omega))
  have b2:iI R ps 3 (br A GA) (.ref t2):=by
   have s:=u6.trans (u7.trans (u8.trans (u9.trans uA)))
   rw[eL,←abw]at g4
   exact rB (s _ _ g5) ((u5.trans s) _ _ g4) (Bs (by unfold CF;rw[aa9,abq];omega))
  have b3:iI R ps 3 (br A GA) (.ref t3):=by
   have s:=u8.trans (u9.trans uA)
   exact⟨_,kM (s _ _ g7) (aY rfl) (show RT (br A GA) 2 (.ref a4) (.tup (CF ps)) from⟨a4,_,O,(u7.trans s) _ _ g6,oR⟩),jy (Pk rfl)⟩
  have b4:iI R ps 3 (br A GA) (.ref t4):=⟨_,kM (uA _ _ g9) (aY rfl) (oV (n:=1) ((u9.trans uA) _ _ g8)),Dq (by decide +kernel)⟩
  have bX:dB R ps 3 (br A GA) [.ref t1,.ref t2,.ref t3,.ref t4]:=.cons b1 (.cons b2 (.cons b3 (.cons b4 .nil)))
  clear b1 b2 b3 b4 u1 u2 u3 u4 u5 u6 u7 u8 u9 uA g1 g2 g3 g4 g5 g6 g7 g8 g9
  have AO:=sA _ _ hl
  clear h1 j1 h2 h3 j2 h4 j3 h5 j4 Cg
  have cl1:=gn (ps.map nV) (some 1) none
  refine λB1 zc=>⟨_,_,_,_,rfl,rfl,(ah zc _ _ AO),ai,?_,λB2 hB2=>⟨(by show(2:Nat)<=sizeLine;decide),λt5 j5=>⟨'c',λB3 Ci=>⟨_,rfl,_,rfl,_,_,rfl,aN.of (ah Ci _ _ (ah j5 _ _ (ah hB2 _ _ (ah zc _ _ AO)))),λB4 Nh=>⟨_,_,_,_,rfl,rfl,(ah Nh _ _ ai),ai,?_,λB5 Ni=>⟨(by show(2:Nat)<=sizeLine;decide),λt6 j6=>⟨'c',λB6 Lh=>⟨_,rfl,_,rfl,_,_,rfl,aN.of (ah Lh _ _ (ah j6 _ _ (ah Ni _ _ (ah Nh _ _ (ah Ci _ _ (ah j5 _ _ (ah hB2 _ _ (ah zc _ _ AO)))))))),λB7 Jd=>⟨_,_,_,_,rfl,rfl,(ah Jd _ _ ai),ai,?_,λB8 Je=>⟨(by show(2:Nat)<=sizeLine;decide),λt7 j7=>⟨'c',λt8 j8=>⟨(by show(4:Nat)<=sizeLine;decide),λX2 hX2=>?_⟩⟩⟩⟩⟩⟩⟩⟩⟩⟩⟩⟩
  ·exact abv (show(ps.map nV).length+1<=100 by omega) 'c'
  ·exact abv (show 1+(aZ (ps.map nV) (some 1) none).length<=100 by omega) 'c'
  ·exact abv (show 1+(aZ (ps.map nV) (some 1) none).length<=100 by omega) 'c'
  (have u1:=ah (o:=HO.lst [V.int 8]) zc;have g1:=ai (H:=GA) (a:=B1) (o:=HO.lst [V.int 8]);generalize upd GA B1 (HO.lst [V.int 8])=G1 at u1 g1 hB2 j5 Ci Nh Ni j6 Lh Jd Je j7 j8 hX2⊢;have u2:=ah (o:=HO.lst (List.map nV ps++[V.int 8])) hB2;have g2:=ai (H:=G1) (a:=B2) (o:=HO.lst (List.map nV ps++[V.int 8]));generalize upd G1 B2 (HO.lst (List.map nV ps++[V.int 8]))=G2 at u2 g2 j5 Ci Nh Ni j6 Lh Jd Je j7 j8 hX2⊢;have u3:=ah (o:=HO.tup [V.str 'd',V.ref B2]) j5;have g3:=ai (H:=G2) (a:=t5) (o:=HO.tup [V.str 'd',V.ref B2]);generalize upd G2 t5 (HO.tup [V.str 'd',V.ref B2])=G3 at u3 g3 Ci Nh Ni j6 Lh Jd Je j7 j8 hX2⊢;have u4:=ah (o:=HO.lst [V.non]) Ci;have g4:=ai (H:=G3) (a:=B3) (o:=HO.lst [V.non]);generalize upd G3 B3 (HO.lst [V.non])=G4 at u4 g4 Nh Ni j6 Lh Jd Je j7 j8 hX2⊢;have u5:=ah (o:=HO.lst (aZ (List.map nV ps) (some 1) none)) Nh;have g5:=ai (H:=G4) (a:=B4) (o:=HO.lst (aZ (List.map nV ps) (some 1) none));generalize upd G4 B4 (HO.lst (aZ (List.map nV ps) (some 1) none))=G5 at u5 g5 Ni j6 Lh Jd Je j7 j8 hX2⊢;have u6:=ah (o:=HO.lst ([V.non]++aZ (List.map nV ps) (some 1) none)) Ni;have g6:=ai (H:=G5) (a:=B5) (o:=HO.lst ([V.non]++aZ (List.map nV ps) (some 1) none));generalize upd G5 B5 (HO.lst ([V.non]++aZ (List.map nV ps) (some 1) none))=G6 at u6 g6 j6 Lh Jd Je j7 j8 hX2⊢;have u7:=ah (o:=HO.tup [V.str 'd',V.ref B5]) j6;have g7:=ai (H:=G6) (a:=t6) (o:=HO.tup [V.str 'd',V.ref B5]);generalize upd G6 t6 (HO.tup [V.str 'd',V.ref B5])=G7 at u7 g7 Lh Jd Je j7 j8 hX2⊢;have u8:=ah (o:=HO.lst [V.str ("a":Str)]) Lh;have g8:=ai (H:=G7) (a:=B6) (o:=HO.lst [V.str ("a":Str)]);generalize upd G7 B6 (HO.lst [V.str ("a":Str)])=G8 at u8 g8 Jd Je j7 j8 hX2⊢;have u9:=ah (o:=HO.lst (aZ (List.map nV ps) (some 1) none)) Jd;have g9:=ai (H:=G8) (a:=B7) (o:=HO.lst (aZ (List.map nV ps) (some 1) none));generalize upd G8 B7 (HO.lst (aZ (List.map nV ps) (some 1) none))=G9 at u9 g9 Je j7 j8 hX2⊢;have uB:=ah (o:=HO.lst ([V.str ("a":Str)]++aZ (List.map nV ps) (some 1) none)) Je;have gB:=ai (H:=G9) (a:=B8) (o:=HO.lst ([V.str ("a":Str)]++aZ (List.map nV ps) (some 1) none));generalize upd G9 B8 (HO.lst ([V.str ("a":Str)]++aZ (List.map nV ps) (some 1) none))=GB at uB gB j7 j8 hX2⊢;have uC:=ah (o:=HO.tup [V.str 'd',V.ref B8]) j7;have gC:=ai (H:=GB) (a:=t7) (o:=HO.tup [V.str 'd',V.ref B8]);generalize upd GB t7 (HO.tup [V.str 'd',V.ref B8])=GC at uC gC j8 hX2⊢;have uD:=ah (o:=HO.tup [V.str 'd']) j8;have gD:=ai (H:=GC) (a:=t8) (o:=HO.tup [V.str 'd']);generalize upd GC t8 (HO.tup [V.str 'd'])=GD at uD gD hX2⊢;have uE:=ah (o:=HO.lst [V.ref t5,V.ref t6,V.ref t7,V.ref t8]) hX2;have gE:=ai (H:=GD) (a:=X2) (o:=HO.lst [V.ref t5,V.ref t6,V.ref t7,V.ref t8]);generalize upd GD X2 (HO.lst [V.ref t5,V.ref t6,V.ref t7,V.ref t8])=GE at uE gE⊢)
  have w1:=u1.trans (u2.trans (u3.trans (u4.trans (u5.trans (u6.trans (u7.trans (u8.trans (u9.trans (uB.trans (uC.trans (uD.trans uE)))))))))))
  refine⟨X1,X2,_,_,O,O,w1 _ _ gA,gE,(by show 8<=sizeLine;decide),λX3 ID=>?_⟩
  (have uF:=ah (o:=HO.lst ([V.ref t1,V.ref t2,V.ref t3,V.ref t4]++[V.ref t5,V.ref t6,V.ref t7,V.ref t8])) ID;have gF:=ai (H:=GE) (a:=X3) (o:=HO.lst ([V.ref t1,V.ref t2,V.ref t3,V.ref t4]++[V.ref t5,V.ref t6,V.ref t7,V.ref t8]));generalize upd GE X3 (HO.lst ([V.ref t1,V.ref t2,V.ref t3,V.ref t4]++[V.ref t5,V.ref t6,V.ref t7,V.ref t8]))=GF at uF gF⊢)
  have v1:=uB.trans (uC.trans (uD.trans (uE.trans uF)))
  have v2:=u7.trans (u8.trans (u9.trans v1))
  have sF:aG GA GF:=u1.trans (u2.trans (u3.trans (u4.trans (u5.trans (u6.trans v2)))))
  have g1:=hid (A:=A) (UG _ zc) g1
  have eF:=UG.mono u1
  have g2:=hid (A:=A) (eF _ hB2) g2
  have eG:=eF.mono u2
  have g3:=hid (A:=A) (eG _ j5) g3
  have eS:=eG.mono u3
  have g4:=hid (A:=A) (eS _ Ci) g4
  have fT:=eS.mono u4
  have g5:=hid (A:=A) (fT _ Nh) g5
  have fK:=fT.mono u5
  have g6:=hid (A:=A) (fK _ Ni) g6
  have fL:=fK.mono u6
  have g7:=hid (A:=A) (fL _ j6) g7
  have gb:=fL.mono u7
  have g8:=hid (A:=A) (gb _ Lh) g8
  have mP:=gb.mono u8
  have g9:=hid (A:=A) (mP _ Jd) g9
  have IC:=mP.mono u9
  have gB:=hid (A:=A) (IC _ Je) gB
  have Qq:=IC.mono uB
  have gC:=hid (A:=A) (Qq _ j7) gC
  have Qs:=Qq.mono uC
  have gD:=hid (A:=A) (Qs _ j8) gD
  have Qt:=Qs.mono uD
  have gE:=hid (A:=A) (Qt _ hX2) gE
  have UH:=Qt.mono uE
  have lvF:=UH.mono uF
  have u1:=aJ (A:=A) u1
  have u2:=aJ (A:=A) u2
  have u3:=aJ (A:=A) u3
  have u4:=aJ (A:=A) u4
  have u5:=aJ (A:=A) u5
  have u6:=aJ (A:=A) u6
  have u7:=aJ (A:=A) u7
  have u8:=aJ (A:=A) u8
  have u9:=aJ (A:=A) u9
  have uB:=aJ (A:=A) uB
  have uC:=aJ (A:=A) uC
  have uD:=aJ (A:=A) uD
  have uE:=aJ (A:=A) uE
  have uF:=aJ (A:=A) uF
  have v1:=aJ (A:=A) v1
  have v2:=aJ (A:=A) v2
  clear eF eG eS fT fK fL gb mP IC Qq Qs Qt UH
  have b1:iI R ps 3 (br A GF) (.ref t5):=by
   have s:=u4.trans (u5.trans (u6.trans v2))
   have g2:br A G2 B2=some (.lst ((ps++[8]).map nV)):=by rw[abw];exact g2
   exact rB (s _ _ g3) ((u3.trans s) _ _ g2) (Bs (by unfold CF;rw[aa9,abq];simp))
  have b2:iI R ps 3 (br A GF) (.ref t6):=by
   have s:=u8.trans (u9.trans v1)
   rw[e1]at g6
   exact Bt (s _ _ g7) ((u7.trans s) _ _ g6) rfl Ea λp _=>rfl
  have b3:iI R ps 3 (br A GF) (.ref t7):=by
   have s:=uD.trans (uE.trans uF)
   rw[e1]at gB
   exact Bt (s _ _ gC) ((uC.trans s) _ _ gB) rfl Ea λp _=>rfl
  have b4:iI R ps 3 (br A GF) (.ref t8):=⟨_,show RT (br A GF) 3 (.ref t8) (.tup [.at (.str 'd')]) from⟨t8,_,rfl,(uE.trans uF) _ _ gD,.cons (aY rfl) .nil⟩,λm=>rA (by simp)⟩
  have bX:dB R ps 3 (br A GF) ([.ref t1,.ref t2,.ref t3,.ref t4]++[.ref t5,.ref t6,.ref t7,.ref t8]):=(bX.mono (aJ sF)).app (.cons b1 (.cons b2 (.cons b3 (.cons b4 .nil))))
  have sA:=sA.trans sF
  have AO:=sF _ _ AO
  clear b1 b2 b3 b4 u1 u2 u3 u4 u5 u6 u7 u8 u9 uB uC uD uE uF g1 g2 g3 g4 g5 g6 g7 g8 g9 gB gC gD gE v1 v2 sF
  clear zc hB2 j5 Ci Nh Ni j6 Lh Jd Je j7 j8 hX2 ID
  dsimp only[bQ]
  refine⟨_,O,_,O,_,_,O,.inl (aN.of AO),λC1 Jf=>⟨(by show(2:Nat)<=sizeLine;decide),λC2 GV=>⟨'c',λC3 Eb=>⟨_,O,_,_,O,.inl (aN.of (ah Eb _ _ (ah GV _ _ (ah Jf _ _ AO)))),λC4 D0=>⟨'c',λC5 Cj=>⟨'h',λt9 j9=>⟨(by show(6:Nat)<=sizeLine;decide),λX4 xH=>⟨_,_,_,_,O,O,(ah xH _ _ (ah j9 _ _ (ah Cj _ _ (ah D0 _ _ (ah Eb _ _ (ah GV _ _ (ah Jf _ _ gF))))))),ai,?_,λX5 pG=>⟨_,O,_,O,_,O,⟨_,aN.of (ah pG _ _ (ah xH _ _ (ah j9 _ _ (ah Cj _ _ (ah D0 _ _ (ah Eb _ _ (ah GV _ _ (ah Jf _ _ AO))))))))⟩,?_⟩⟩⟩⟩⟩⟩⟩⟩⟩
  ·show 14<=sizeLine;decide
  (have u1:=ah (o:=HO.lst (List.map nV ps)) Jf;have g1:=ai (H:=GF) (a:=C1) (o:=HO.lst (List.map nV ps));generalize upd GF C1 (HO.lst (List.map nV ps))=G1 at u1 g1 GV Eb D0 Cj j9 xH pG⊢;have u2:=ah (o:=HO.lst [V.str 'd',V.ref C1]) GV;have g2:=ai (H:=G1) (a:=C2) (o:=HO.lst [V.str 'd',V.ref C1]);generalize upd G1 C2 (HO.lst [V.str 'd',V.ref C1])=G2 at u2 g2 Eb D0 Cj j9 xH pG⊢;have u3:=ah (o:=HO.tup []) Eb;have g3:=ai (H:=G2) (a:=C3) (o:=HO.tup []);generalize upd G2 C3 (HO.tup [])=G3 at u3 g3 D0 Cj j9 xH pG⊢;have u4:=ah (o:=HO.lst (List.map nV ps)) D0;have g4:=ai (H:=G3) (a:=C4) (o:=HO.lst (List.map nV ps));generalize upd G3 C4 (HO.lst (List.map nV ps))=G4 at u4 g4 Cj j9 xH pG⊢;have u5:=ah (o:=HO.lst []) Cj;have g5:=ai (H:=G4) (a:=C5) (o:=HO.lst []);generalize upd G4 C5 (HO.lst [])=G5 at u5 g5 j9 xH pG⊢;have u6:=ah (o:=HO.tup [V.str 'd',V.ref C4,V.ref C5]) j9;have g6:=ai (H:=G5) (a:=t9) (o:=HO.tup [V.str 'd',V.ref C4,V.ref C5]);generalize upd G5 t9 (HO.tup [V.str 'd',V.ref C4,V.ref C5])=G6 at u6 g6 xH pG⊢;have u7:=ah (o:=HO.lst [V.ref C2,V.non,V.int 7,V.str 'd',V.ref C3,V.ref t9]) xH;have g7:=ai (H:=G6) (a:=X4) (o:=HO.lst [V.ref C2,V.non,V.int 7,V.str 'd',V.ref C3,V.ref t9]);generalize upd G6 X4 (HO.lst [V.ref C2,V.non,V.int 7,V.str 'd',V.ref C3,V.ref t9])=G7 at u7 g7 pG⊢;have uI:=ah (o:=HO.lst ([V.ref t1,V.ref t2,V.ref t3,V.ref t4]++[V.ref t5,V.ref t6,V.ref t7,V.ref t8]++[V.ref C2,V.non,V.int 7,V.str 'd',V.ref C3,V.ref t9])) pG;have gI:=ai (H:=G7) (a:=X5) (o:=HO.lst ([V.ref t1,V.ref t2,V.ref t3,V.ref t4]++[V.ref t5,V.ref t6,V.ref t7,V.ref t8]++[V.ref C2,V.non,V.int 7,V.str 'd',V.ref C3,V.ref t9]));generalize upd G7 X5 (HO.lst ([V.ref t1,V.ref t2,V.ref t3,V.ref t4]++[V.ref t5,V.ref t6,V.ref t7,V.ref t8]++[V.ref C2,V.non,V.int 7,V.str 'd',V.ref C3,V.ref t9]))=GI at uI gI⊢)
  have w1:=u1.trans (u2.trans (u3.trans (u4.trans (u5.trans (u6.trans u7)))))
  have sF:aG GF GI:=w1.trans uI
  have g1:=hid (A:=A) (lvF _ Jf) g1
  have eF:=lvF.mono u1
  have g2:=hid (A:=A) (eF _ GV) g2
  have eG:=eF.mono u2
  have g3:=hid (A:=A) (eG _ Eb) g3
  have eS:=eG.mono u3
  have g4:=hid (A:=A) (eS _ D0) g4
  have fT:=eS.mono u4
  have g5:=hid (A:=A) (fT _ Cj) g5
  have fK:=fT.mono u5
  have g6:=hid (A:=A) (fK _ j9) g6
  have fL:=fK.mono u6
  have g7:=hid (A:=A) (fL _ xH) g7
  have gb:=fL.mono u7
  have lvI:=gb.mono uI
  have u1:=aJ (A:=A) u1
  have u2:=aJ (A:=A) u2
  have u3:=aJ (A:=A) u3
  have u4:=aJ (A:=A) u4
  have u5:=aJ (A:=A) u5
  have u6:=aJ (A:=A) u6
  have u7:=aJ (A:=A) u7
  have uI:=aJ (A:=A) uI
  clear eF eG eS fT fK fL gb
  have b1:iI R ps 3 (br A GI) (.ref C2):=by
   have s:=u3.trans (u4.trans (u5.trans (u6.trans (u7.trans uI))))
   exact⟨_,show RT (br A GI) 3 (.ref C2) (.lst [.at (.str 'd'),.lst (CF ps)]) from⟨C2,_,rfl,s _ _ g2,.cons (aY rfl) (.cons (oV (n:=1) ((u2.trans s) _ _ g1)) .nil)⟩,λm=>jx rfl⟩
  have b5:iI R ps 3 (br A GI) (.ref C3):=⟨_,show RT (br A GI) 3 (.ref C3) (.tup []) from⟨C3,_,rfl,(u4.trans (u5.trans (u6.trans (u7.trans uI)))) _ _ g3,.nil⟩,λm=>rA (by simp)⟩
  have b6:iI R ps 3 (br A GI) (.ref t9):=by
   have s:=u7.trans uI
   exact⟨_,k6 (s _ _ g6) (aY rfl) (oV (n:=1) ((u5.trans (u6.trans s)) _ _ g4)) (show RT (br A GI) 2 (.ref C5) (.lst []) from⟨C5,_,rfl,(u6.trans s) _ _ g5,.nil⟩),AH (by decide +kernel)⟩
  have bX:dB R ps 3 (br A GI) (([.ref t1,.ref t2,.ref t3,.ref t4]++[.ref t5,.ref t6,.ref t7,.ref t8])++[.ref C2,.non,.int 7,.str 'd',.ref C3,.ref t9]):=(bX.mono (aJ sF)).app (.cons b1 (.cons ⟨_,aY rfl,λm=>jx rfl⟩ (.cons ⟨_,aY rfl,λm=>jx rfl⟩ (.cons ⟨_,aY rfl,λm=>jx rfl⟩ (.cons b5 (.cons b6 .nil))))))
  have sA:=sA.trans sF
  have AO:=sF _ _ AO
  clear b1 b5 b6 u1 u2 u3 u4 u5 u6 u7 uI g1 g2 g3 g4 g5 g6 g7 w1 sF Jf GV Eb D0 Cj j9 xH pG
  dsimp only[bQ]
  refine λD1 Q5=>?_
  refine bZ (K:=K) (a:=l) (xs:=ps.map nV) (λj ys τ J=>(∃v,τ=[v])/\aG GI J/\J D1=some (.lst ys)/\ys=((ps.take j).map λp:Nat=>decide ((p:Int)=1)).map V.bl) ⟨⟨_,rfl⟩,ah Q5,ai,rfl⟩ (λj ys τ J _ q=>⟨aN.of (q.2.1 _ _ AO),q.2.2.1⟩) ?_ ?_
  ·rintro j e ys τ J hj ⟨⟨v,rfl⟩,sJ,hJ,rfl⟩
   obtain⟨p,hp,rfl⟩:=lZ hj
   have hjl:=(abd.mp hp).1
   refine o7 ?_
   refine⟨_,O,O,hJ,?_,⟨_,O⟩,aL Q5 sJ,ai,?_⟩
   ·rw[aa9,aa9,abJ];exact abr (show min j ps.length<=100 by omega) 'c'
   ·rw[bw hp,abw,abw]
    show _++[V.bl (decide (V.int (p:Int)=V.int 1))]=_
    rw[MC];rfl
  rintro ys τ J ⟨⟨v,rfl⟩,sJ,hJ,rfl⟩
  rw[Ce,aby (abh _)]at hJ
  have gIJ:=sJ _ _ gI
  have VC:=sJ _ _ AO
  refine⟨(by show(2:Nat)<=sizeLine;decide),λyN Ec=>⟨'c',λE1 Li=>⟨'h',λLj Q6=>⟨_,O,'c',λE2 Oh=>⟨_,O,_,O,_,_,O,aN.of (ah Oh _ _ (ah Q6 _ _ (ah Li _ _ (ah Ec _ _ VC)))),λE3 GW=>⟨_,_,_,_,O,O,(ah GW _ _ ai),ai,?_,λE4 Lk=>⟨(by show(2:Nat)<=sizeLine;decide),λLl Nj=>⟨'h',λX6 yO=>⟨_,_,_,_,O,O,(ah yO _ _ (ah Nj _ _ (ah Lk _ _ (ah GW _ _ (ah Oh _ _ (ah Q6 _ _ (ah Li _ _ (ah Ec _ _ gIJ)))))))),ai,?_,λX7 zZ=>⟨_,O,'c',?_⟩⟩⟩⟩⟩⟩⟩⟩⟩⟩
  ·exact abv (show 1+(aZ (ps.map nV) (some 1) none).length<=100 by omega) 'c'
  ·show 17<=sizeLine;decide
  (have u1:=ah (o:=HO.tup [V.str 'd',V.ref D1]) Ec;have g1:=ai (H:=J) (a:=yN) (o:=HO.tup [V.str 'd',V.ref D1]);generalize upd J yN (HO.tup [V.str 'd',V.ref D1])=G1 at u1 g1 Li Q6 Oh GW Lk Nj yO zZ⊢;have u2:=ah (o:=HO.lst []) Li;have g2:=ai (H:=G1) (a:=E1) (o:=HO.lst []);generalize upd G1 E1 (HO.lst [])=G2 at u2 g2 Q6 Oh GW Lk Nj yO zZ⊢;have u3:=ah (o:=HO.tup [V.str 'e',V.int 0,V.ref E1]) Q6;have g3:=ai (H:=G2) (a:=Lj) (o:=HO.tup [V.str 'e',V.int 0,V.ref E1]);generalize upd G2 Lj (HO.tup [V.str 'e',V.int 0,V.ref E1])=G3 at u3 g3 Oh GW Lk Nj yO zZ⊢;have u4:=ah (o:=HO.lst [(λi=>V.int (-i)) 1]) Oh;have g4:=ai (H:=G3) (a:=E2) (o:=HO.lst [(λi=>V.int (-i)) 1]);generalize upd G3 E2 (HO.lst [(λi=>V.int (-i)) 1])=G4 at u4 g4 GW Lk Nj yO zZ⊢;have u5:=ah (o:=HO.lst (aZ (List.map nV ps) (some 1) none)) GW;have g5:=ai (H:=G4) (a:=E3) (o:=HO.lst (aZ (List.map nV ps) (some 1) none));generalize upd G4 E3 (HO.lst (aZ (List.map nV ps) (some 1) none))=G5 at u5 g5 Lk Nj yO zZ⊢;have u6:=ah (o:=HO.lst ([(λi=>V.int (-i)) 1]++aZ (List.map nV ps) (some 1) none)) Lk;have g6:=ai (H:=G5) (a:=E4) (o:=HO.lst ([(λi=>V.int (-i)) 1]++aZ (List.map nV ps) (some 1) none));generalize upd G5 E4 (HO.lst ([(λi=>V.int (-i)) 1]++aZ (List.map nV ps) (some 1) none))=G6 at u6 g6 Nj yO zZ⊢;have u7:=ah (o:=HO.tup [V.str 'd',V.ref E4]) Nj;have g7:=ai (H:=G6) (a:=Ll) (o:=HO.tup [V.str 'd',V.ref E4]);generalize upd G6 Ll (HO.tup [V.str 'd',V.ref E4])=G7 at u7 g7 yO zZ⊢;have u8:=ah (o:=HO.lst [V.ref yN,V.ref Lj,V.ref Ll]) yO;have g8:=ai (H:=G7) (a:=X6) (o:=HO.lst [V.ref yN,V.ref Lj,V.ref Ll]);generalize upd G7 X6 (HO.lst [V.ref yN,V.ref Lj,V.ref Ll])=G8 at u8 g8 zZ⊢;have uK:=ah (o:=HO.lst ([V.ref t1,V.ref t2,V.ref t3,V.ref t4]++[V.ref t5,V.ref t6,V.ref t7,V.ref t8]++[V.ref C2,V.non,V.int 7,V.str 'd',V.ref C3,V.ref t9]++[V.ref yN,V.ref Lj,V.ref Ll])) zZ;have gK:=ai (H:=G8) (a:=X7) (o:=HO.lst ([V.ref t1,V.ref t2,V.ref t3,V.ref t4]++[V.ref t5,V.ref t6,V.ref t7,V.ref t8]++[V.ref C2,V.non,V.int 7,V.str 'd',V.ref C3,V.ref t9]++[V.ref yN,V.ref Lj,V.ref Ll]));generalize upd G8 X7 (HO.lst ([V.ref t1,V.ref t2,V.ref t3,V.ref t4]++[V.ref t5,V.ref t6,V.ref t7,V.ref t8]++[V.ref C2,V.non,V.int 7,V.str 'd',V.ref C3,V.ref t9]++[V.ref yN,V.ref Lj,V.ref Ll]))=GK at uK gK⊢)
  have v1:=u4.trans (u5.trans (u6.trans (u7.trans (u8.trans uK))))
  have sF:aG GI GK:=sJ.trans (u1.trans (u2.trans (u3.trans v1)))
  have Q7:=lvI.mono sJ
  have hJ:=hid (A:=A) (lvI _ Q5) hJ
  have g1:=hid (A:=A) (Q7 _ Ec) g1
  have eF:=Q7.mono u1
  have g2:=hid (A:=A) (eF _ Li) g2
  have eG:=eF.mono u2
  have g3:=hid (A:=A) (eG _ Q6) g3
  have eS:=eG.mono u3
  have g4:=hid (A:=A) (eS _ Oh) g4
  have fT:=eS.mono u4
  have g5:=hid (A:=A) (fT _ GW) g5
  have fK:=fT.mono u5
  have g6:=hid (A:=A) (fK _ Lk) g6
  have fL:=fK.mono u6
  have g7:=hid (A:=A) (fL _ Nj) g7
  have gb:=fL.mono u7
  have g8:=hid (A:=A) (gb _ yO) g8
  have mP:=gb.mono u8
  have lvK:=mP.mono uK
  have u1:=aJ (A:=A) u1
  have u2:=aJ (A:=A) u2
  have u3:=aJ (A:=A) u3
  have u4:=aJ (A:=A) u4
  have u5:=aJ (A:=A) u5
  have u6:=aJ (A:=A) u6
  have u7:=aJ (A:=A) u7
  have u8:=aJ (A:=A) u8
  have uK:=aJ (A:=A) uK
  have v1:=aJ (A:=A) v1
  clear eF eG eS fT fK fL gb mP
  have b1:iI R ps 3 (br A GK) (.ref yN):=by
   have s:=u2.trans (u3.trans v1)
   refine⟨_,kM (s _ _ g1) (aY rfl) (show RT (br A GK) 2 (.ref D1) (.lst ((ps.map λp:Nat=>decide ((p:Int)=1)).map λb=>Th.at (.bl b))) from⟨D1,_,O,(u1.trans s) _ _ hJ,KI⟩),jy ?_⟩
   cases ps with
   |nil=>exact absurd rfl Ea
   |cons p ps=>exact xE rfl
  have b2:iI R ps 3 (br A GK) (.ref Lj):=⟨_,k6 (v1 _ _ g3) (aY rfl) (aY rfl) (show RT (br A GK) 2 (.ref E1) (.lst []) from⟨E1,_,rfl,(u3.trans v1) _ _ g2,.nil⟩),iC λf=>HW⟩
  have b3:iI R ps 3 (br A GK) (.ref Ll):=by
   have s:=u8.trans uK
   rw[e1]at g6
   exact Bt (s _ _ g7) ((u7.trans s) _ _ g6) rfl Ea λp _=>abn 'b'
  have bX:dB R ps 3 (br A GK) ((([.ref t1,.ref t2,.ref t3,.ref t4]++[.ref t5,.ref t6,.ref t7,.ref t8])++[.ref C2,.non,.int 7,.str 'd',.ref C3,.ref t9])++[.ref yN,.ref Lj,.ref Ll]):=(bX.mono (aJ sF)).app (.cons b1 (.cons b2 (.cons b3 .nil)))
  have sA:=sA.trans sF
  have AO:=sF _ _ AO
  clear b1 b2 b3 u1 u2 u3 u4 u5 u6 u7 u8 uK g1 g2 g3 g4 g5 g6 g7 g8 v1 sF Li Oh GW Lk yO zZ hJ gIJ VC sJ
  generalize GX:((([V.ref t1,.ref t2,.ref t3,.ref t4]++[V.ref t5,.ref t6,.ref t7,.ref t8])++[V.ref C2,.non,.int 7,.str 'd',.ref C3,.ref t9])++[V.ref yN,.ref Lj,.ref Ll])=bs at bX gK
  have bl:bs.length=17:=by rw[←GX];rfl
  clear GX
  dsimp only[bQ]
  refine λFg Z3=>⟨'c',λFi VD=>⟨(by show(2:Nat)<=sizeLine;decide),λX8 Fj=>⟨_,_,_,_,rfl,rfl,(ah Fj _ _ (ah VD _ _ (ah Z3 _ _ gK))),ai,?_,?_⟩⟩⟩
  ·show bs.length+2<=sizeLine;rw[bl];decide
  intro X9 IE
  (have u1:=ah (o:=HO.tup [V.str 'd',V.non]) Z3;have g1:=ai (H:=GK) (a:=Fg) (o:=HO.tup [V.str 'd',V.non]);generalize upd GK Fg (HO.tup [V.str 'd',V.non])=G1 at u1 g1 VD Fj IE⊢;have u2:=ah (o:=HO.tup [V.str 'd',V.int 7]) VD;have g2:=ai (H:=G1) (a:=Fi) (o:=HO.tup [V.str 'd',V.int 7]);generalize upd G1 Fi (HO.tup [V.str 'd',V.int 7])=G2 at u2 g2 Fj IE⊢;have u3:=ah (o:=HO.lst [V.ref Fg,V.ref Fi]) Fj;have g3:=ai (H:=G2) (a:=X8) (o:=HO.lst [V.ref Fg,V.ref Fi]);generalize upd G2 X8 (HO.lst [V.ref Fg,V.ref Fi])=G3 at u3 g3 IE⊢;have u4:=ah (o:=HO.lst (bs++[V.ref Fg,V.ref Fi])) IE;have g4:=ai (H:=G3) (a:=X9) (o:=HO.lst (bs++[V.ref Fg,V.ref Fi]));generalize upd G3 X9 (HO.lst (bs++[V.ref Fg,V.ref Fi]))=G4 at u4 g4⊢)
  have v4:=u1.trans (u2.trans (u3.trans u4))
  have hlM:=v4 _ _ AO
  refine⟨_,O,_,O,_,_,O,O,aN.of hlM,λF1 VE=>⟨(by show(2:Nat)<=sizeLine;decide),λEd UI=>⟨(by show(1:Nat)<=sizeLine;decide),λF2 Q8=>⟨_,O,_,_,O,.inl (aN.of (ah Q8 _ _ (ah UI _ _ (ah VE _ _ hlM)))),_,_,O,O,_,O,_,_,O,aN.of ai,λF3 Q9=>⟨_,_,_,_,O,O,(ah Q9 _ _ (ah Q8 _ _ (ah UI _ _ (ah VE _ _ g4)))),ai,?_,?_⟩⟩⟩⟩⟩
  ·have:=gn [V.ref Ed] none (some (((ps.map nV).length:Int)-1))
   rw[abq,bl]
   exact abv (show 17+2+_<=20 by simp only[abF,List.length_nil]at this;omega) 'c'
  intro VF Lm
  (have u5:=ah (o:=HO.lst (List.map nV ps).reverse) VE;have g5:=ai (H:=G4) (a:=F1) (o:=HO.lst (List.map nV ps).reverse);generalize upd G4 F1 (HO.lst (List.map nV ps).reverse)=G5 at u5 g5 UI Q8 Q9 Lm⊢;have u6:=ah (o:=HO.tup [V.str 'd',V.ref F1]) UI;have g6:=ai (H:=G5) (a:=Ed) (o:=HO.tup [V.str 'd',V.ref F1]);generalize upd G5 Ed (HO.tup [V.str 'd',V.ref F1])=G6 at u6 g6 Q8 Q9 Lm⊢;have u7:=ah (o:=HO.lst [V.ref Ed]) Q8;have g7:=ai (H:=G6) (a:=F2) (o:=HO.lst [V.ref Ed]);generalize upd G6 F2 (HO.lst [V.ref Ed])=G7 at u7 g7 Q9 Lm⊢;have u8:=ah (o:=HO.lst (aZ [V.ref Ed] none (some (↑(List.map nV ps).length-1)))) Q9;have g8:=ai (H:=G7) (a:=F3) (o:=HO.lst (aZ [V.ref Ed] none (some (↑(List.map nV ps).length-1))));generalize upd G7 F3 (HO.lst (aZ [V.ref Ed] none (some (↑(List.map nV ps).length-1))))=G8 at u8 g8 Lm⊢;have uL:=ah (o:=HO.lst (bs++[V.ref Fg,V.ref Fi]++aZ [V.ref Ed] none (some (↑(List.map nV ps).length-1)))) Lm;have gL:=ai (H:=G8) (a:=VF) (o:=HO.lst (bs++[V.ref Fg,V.ref Fi]++aZ [V.ref Ed] none (some (↑(List.map nV ps).length-1))));generalize upd G8 VF (HO.lst (bs++[V.ref Fg,V.ref Fi]++aZ [V.ref Ed] none (some (↑(List.map nV ps).length-1))))=GL at uL gL⊢)
  have v1:=u5.trans (u6.trans (u7.trans (u8.trans uL)))
  have w1:=v4.trans v1
  have g1:=hid (A:=A) (lvK _ Z3) g1
  have eF:=lvK.mono u1
  have g2:=hid (A:=A) (eF _ VD) g2
  have eG:=eF.mono u2
  have g3:=hid (A:=A) (eG _ Fj) g3
  have eS:=eG.mono u3
  have lvM:=eS.mono u4
  have u1:=aJ (A:=A) u1
  have u2:=aJ (A:=A) u2
  have u3:=aJ (A:=A) u3
  have u4:=aJ (A:=A) u4
  have v4:=aJ (A:=A) v4
  clear eF eG eS
  have g5:=hid (A:=A) (lvM _ VE) g5
  have fK:=lvM.mono u5
  have g6:=hid (A:=A) (fK _ UI) g6
  have fL:=fK.mono u6
  have g7:=hid (A:=A) (fL _ Q8) g7
  have gb:=fL.mono u7
  have g8:=hid (A:=A) (gb _ Q9) g8
  have mP:=gb.mono u8
  have lvL:=mP.mono uL
  have u5:=aJ (A:=A) u5
  have u6:=aJ (A:=A) u6
  have u7:=aJ (A:=A) u7
  have u8:=aJ (A:=A) u8
  have uL:=aJ (A:=A) uL
  have v1:=aJ (A:=A) v1
  clear fK fL gb mP
  have b1:iI R ps 3 (br A GL) (.ref Fg):=⟨_,kM ((u2.trans (u3.trans (u4.trans v1))) _ _ g1) (aY rfl) (aY rfl),jy rfl⟩
  have b2:iI R ps 3 (br A GL) (.ref Fi):=⟨_,kM ((u3.trans (u4.trans v1)) _ _ g2) (aY rfl) (aY rfl),jy rfl⟩
  have b3:∀x∈aZ [V.ref Ed] none (some (((ps.map nV).length:Int)-1)),iI R ps 3 (br A GL) x:=λx hx=>by
   rw[Ce]at hx
   obtain⟨rfl,h2⟩:=KJ pp hx
   have g5:br A G5 F1=some (.lst (ps.reverse.map nV)):=by rw[List.map_reverse];exact g5
   refine rB ((u7.trans (u8.trans uL)) _ _ g6) ((u6.trans (u7.trans (u8.trans uL))) _ _ g5) ?_
   cases ps with
   |nil=>exact absurd rfl Ea
   |cons p ps=>exact MJ hnd (by rintro rfl;simp at h2)
  have bX:dB R ps 3 (br A GL) ((bs++[.ref Fg,.ref Fi])++aZ [V.ref Ed] none (some (((ps.map nV).length:Int)-1))):=((bX.mono (aJ w1)).app (.cons b1 (.cons b2 .nil))).app b3
  have zl:1<=((bs++[V.ref Fg,.ref Fi])++aZ [V.ref Ed] none (some (((ps.map nV).length:Int)-1))).length:=by rw[abq,abq,bl];omega
  generalize (bs++[V.ref Fg,.ref Fi])++aZ [V.ref Ed] none (some (((ps.map nV).length:Int)-1))=zs at bX gL zl
  have zn:zs≠[]:=by intro e;rw[e]at zl;exact absurd zl 'c'
  obtain⟨v,av,vm⟩:=ET zn n
  refine⟨_,rfl,_,rfl,_,rfl,VF,zs,rfl,.inl (aN.of gL),_,_,rfl,rfl,by have:=abX.mpr zn;omega,VF,zs,_,v,rfl,rfl,aN.of gL,av,?_⟩
  exact k v _ (bX v vm) (sA.trans w1)
inductive jZ(K:W.Frag)(vs:List V)(H:Hp)(Q:VK)(E_:XK):Prop where
 |mk (A:Hp) (R:List (List Nat)) (ps:List Nat) (t l:Addr) (i e:Nat) (n:Int) (ys:List V) (ts:List Th):(Jb A H)->(A l=none)->(vs=[.ref t,.int (R.length:Int),.int n])->(H t=some (.tup [.str 'e',.int (i:Int),.ref l]))->(H l=some (.lst ys))->(Paired (RT (br A H) e) ys ts)->(i<R.length)->(R.length<=20)->(ts.length=(aE (R.getD i []) ps).length)->(ts≠[])->(ts.length<=20)->((∀(m k:Nat) q x,k≠0->(aE (R.getD i []) ps)[0]?=some q->ts[k]?=some x->bK R m q x=false))->(∀v H',iI R ps (e+2) (br A H') v->aG H H'->Q v H')->jZ K vs H Q E_
theorem sO:zzz T eH 1 49 ["_law_tree","_law_many","_law_x"] (jZ K):=by
 refine T.k8.ok bC 'g' 'a'
 ·obtain⟨A,R,ps,t,l,i,e,n,ys,ts,_,_,rfl,_⟩:=h;rfl
 ·have hu:=bx hr
  obtain⟨A,R,ps,t,l,i,e,n,ys,ts,UC,al,rfl,ht,hl,pa,hi,hR,htl,Ww,aa7,sw,k⟩:=h
  have pl:=pa.length
  have kn:=Kn.of pa
  have tp:=abX.mpr Ww
  refine'⟨_,?aa,?bb⟩
  case aa =>
   refine' aq ?s0 ?r0
   case s0 =>
    exact(dU (pv 0) (eZ K rfl 3 rfl (aS (e7 3 bC.nd) (aS (e7 4 bC.nd) (aS (e7 5 bC.nd) eY)))))
   case r0 =>
    refine' aq ?s1 ?r1
    case s1 =>
     refine' dj 6 bC.nd ?v2
     case v2 =>
      refine' aW ?a3
      case a3 =>
       refine' af ?x4 ?y4 ?z4
       case z4=>exact rfl
       case x4 =>
        refine' aB ?a5
        case a5 =>
         refine' af ?x6 ?y6 ?z6
         case z6=>exact rfl
         case x6 =>
          exact az
         case y6 =>
          refine' af ?x7 ?y7 ?z7
          case z7=>exact rfl
          case x7 =>
           exact(pv 4)
          case y7 =>
           refine' af ?x8 ?y8 ?z8
           case z8=>exact rfl
           case x8 =>
            exact(pv 5)
           case y8 =>
            exact ak
       case y4 =>
        refine' af ?x9 ?y9 ?z9
        case z9=>exact rfl
        case x9 =>
         refine' aB ?Z4
         case Z4 =>
          refine' af ?Qa ?Qc ?Qd
          case Qd=>exact rfl
          case Qa =>
           exact(pv 3)
          case Qc =>
           refine' af ?M3 ?M4 ?M5
           case M5=>exact rfl
           case M3 =>
            exact(vj nA au)
           case M4 =>
            refine' af ?S5 ?S6 ?S7
            case S7=>exact rfl
            case S5 =>
             exact(pv 5)
            case S6 =>
             exact ak
        case y9 =>
         refine' af ?Up ?Uq ?Ur
         case Ur=>exact rfl
         case Up =>
          refine' aB ?To
          case To =>
           refine' af ?Il ?Im ?Io
           case Io=>exact rfl
           case Il =>
            exact(pv 3)
           case Im =>
            refine' af ?XH ?XI ?XJ
            case XJ=>exact rfl
            case XH =>
             exact(pv 1)
            case XI =>
             refine' af ?Zy ?Zz ?ZA
             case ZA=>exact rfl
             case Zy =>
              exact(pv 5)
             case Zz =>
              exact ak
         case Uq =>
          refine' af ?Nd ?Nf ?Ng
          case Ng=>exact rfl
          case Nd =>
           refine' aB ?Uv
           case Uv =>
            refine' af ?Zn ?Zo ?Zp
            case Zp=>exact rfl
            case Zn =>
             exact(pv 3)
            case Zo =>
             refine' af ?K3 ?K4 ?K5
             case K5=>exact rfl
             case K3 =>
              exact gw
             case K4 =>
              refine' af ?Ip ?Iq ?Ir
              case Ir=>exact rfl
              case Ip =>
               exact(pv 5)
              case Iq =>
               exact ak
          case Nf =>
           exact ak
    case r1 =>
     refine' aq ?Xi ?r24
     case Xi =>
      exact(dj 6 bC.nd (aF ef (pv 6) (aW (af (aB (af (pv 3) (af (pv 4) (af (cG (dD K rfl) (pv 5) (cJ au) fO) ak)))) (af (aB (af (pv 3) (af (pv 4) (af (aF ef (pv 5) (cG (dD K rfl) (pv 5) (cJ (vj nA au)) fO)) ak)))) (af (aB (af (pv 3) (af (pv 4) (af (EG (jj K rfl) T.n8 (af (pv 5) ak)) ak)))) ak))))))
     case r24 =>
      refine' aq ?s25 ?r25
      case s25 =>
       refine' dj 6 bC.nd ?v26
       case v26 =>
        refine' aF ef ?Z5 ?Z6
        case Z5 =>
         exact(pv 6)
        case Z6 =>
         refine' aW ?Qi
         case Qi =>
          refine' af ?Tv ?Tw ?Tz
          case Tz=>exact rfl
          case Tv =>
           refine' aB ?Z7
           case Z7 =>
            refine' af ?N9 ?P8 ?P9
            case P9=>exact rfl
            case N9 =>
             exact(pv 3)
            case P8 =>
             refine' af ?PM ?PN ?PR
             case PR=>exact rfl
             case PM =>
              exact(pv 4)
             case PN =>
              exact ak
          case Tw =>
           refine' af ?Sq ?Ss ?Su
           case Su=>exact rfl
           case Sq =>
            refine' aB ?Sv
            case Sv =>
             refine' af ?Sw ?Sx ?Sy
             case Sy=>exact rfl
             case Sw =>
              exact(pv 3)
             case Sx =>
              refine' af ?MX ?MY ?MZ
              case MZ=>exact rfl
              case MX =>
               exact(AD aU (pv 4) au)
              case MY =>
               refine' af ?PY ?PZ ?P0
               case P0=>exact rfl
               case PY =>
                exact(pv 5)
               case PZ =>
                exact ak
           case Ss =>
            refine' af ?SO ?SQ ?SR
            case SR=>exact rfl
            case SO =>
             refine' aB ?SS
             case SS =>
              refine' af ?SV ?SW ?SX
              case SX=>exact rfl
              case SV =>
               exact(pv 3)
              case SW =>
               refine' af ?SY ?S0 ?S3
               case S3=>exact rfl
               case SY =>
                exact(EG AV T.BP (af (pv 4) ak))
               case S0 =>
                refine' af ?SA ?SD ?SE
                case SE=>exact rfl
                case SA =>
                 exact(pv 5)
                case SD =>
                 exact ak
            case SQ =>
             refine' af ?SG ?SH ?SI
             case SI=>exact rfl
             case SG =>
              refine' aB ?UD
              case UD =>
               refine' af ?ZH ?ZI ?ZJ
               case ZJ=>exact rfl
               case ZH =>
                exact(pv 3)
               case ZI =>
                refine' af ?TJ ?TL ?TM
                case TM=>exact rfl
                case TJ =>
                 exact(pv 4)
                case TL =>
                 refine' af ?PU ?PV ?PX
                 case PX=>exact rfl
                 case PU =>
                  exact(aF ef (aW (af gw ak)) (cG (dD K rfl) (pv 5) (cJ au) fO))
                 case PV =>
                  exact ak
             case SH =>
              exact ak
      case r25 =>
       refine' aq ?X0 ?Yb
       case X0 =>
        refine' dj 6 bC.nd ?v49
        case v49 =>
         refine' aF ef ?Z8 ?Z9
         case Z8 =>
          exact(pv 6)
         case Z9 =>
          refine' aW ?UE
          case UE =>
           refine' af ?ZK ?ZL ?ZN
           case ZN=>exact rfl
           case ZK =>
            refine' aW ?Q4
            case Q4 =>
             refine' af ?TN ?TQ ?TR
             case TR=>exact rfl
             case TN =>
              exact(pv 3)
             case TQ =>
              refine' af ?T7 ?T8 ?T9
              case T9=>exact rfl
              case T7 =>
               exact(pv 4)
              case T8 =>
               refine' af ?Ua ?Ub ?Uc
               case Uc=>exact rfl
               case Ua =>
                exact(pv 5)
               case Ub =>
                exact ak
           case ZL =>
            refine' af ?x57 ?y57 ?z57
            case z57=>exact rfl
            case x57 =>
             refine' aB ?Yn
             case Yn =>
              refine' af ?TU ?TV ?TX
              case TX=>exact rfl
              case TU =>
               exact(pv 3)
              case TV =>
               refine' af ?x60 ?y60 ?z60
               case z60=>exact rfl
               case x60 =>
                exact(pv 4)
               case y60 =>
                refine' af ?TZ ?T3 ?T4
                case T4=>exact rfl
                case TZ =>
                 exact(pv 5)
                case T3 =>
                 refine' af ?Qj ?Qk ?Ql
                 case Ql=>exact rfl
                 case Qj =>
                  refine' aW ?ZO
                  case ZO =>
                   exact ak
                 case Qk =>
                  exact ak
            case y57 =>
             refine' af ?ZQ ?ZR ?ZS
             case ZS=>exact rfl
             case ZQ =>
              refine' aB ?a65
              case a65 =>
               refine' af ?Ud ?Ue ?Ug
               case Ug=>exact rfl
               case Ud =>
                exact(pv 3)
               case Ue =>
                refine' af ?x67 ?y67 ?z67
                case z67=>exact rfl
                case x67 =>
                 exact(pv 4)
                case y67 =>
                 refine' af ?ZT ?ZU ?ZV
                 case ZV=>exact rfl
                 case ZT =>
                  exact gw
                 case ZU =>
                  exact ak
             case ZR =>
              refine' af ?ZW ?ZX ?ZY
              case ZY=>exact rfl
              case ZW =>
               refine' aB ?a70
               case a70 =>
                refine' af ?x71 ?y71 ?z71
                case z71=>exact rfl
                case x71 =>
                 exact(pv 3)
                case y71 =>
                 refine' af ?Uh ?Ui ?Uj
                 case Uj=>exact rfl
                 case Uh =>
                  exact(pv 4)
                 case Ui =>
                  refine' af ?Ys ?Yt ?Yu
                  case Yu=>exact rfl
                  case Ys =>
                   exact au
                  case Yt =>
                   exact ak
              case ZX =>
               refine' af ?Z0 ?Z1 ?Z2
               case Z2=>exact rfl
               case Z0 =>
                refine' aB ?a75
                case a75 =>
                 refine' af ?Yy ?Yz ?YA
                 case YA=>exact rfl
                 case Yy =>
                  exact au
                 case Yz =>
                  refine' af ?x77 ?y77 ?z77
                  case z77=>exact rfl
                  case x77 =>
                   exact(pv 4)
                  case y77 =>
                   refine' af ?x78 ?y78 ?z78
                   case z78=>exact rfl
                   case x78 =>
                    exact(pv 5)
                   case y78 =>
                    exact ak
               case Z1 =>
                exact ak
       case Yb =>
        refine' aq ?LF ?YC
        case LF =>
         refine' aO ?YD ?YE ?YF
         case YD=>exact(cC qR (gv (aK K rfl) T.bB (af (pv 5) ak)) au)
         case YE =>
          refine' ay ?YG
          case YG =>
           exact(dj 6 bC.nd (aF ef (pv 6) (aW (af (aB (af (pv 3) (af (pv 4) (af (aF ef (cG (dD K rfl) (pv 5) (cJ au) fO) (cG (dD K rfl) (pv 5) fO (cJ au))) ak)))) (af (aB (af (pv 3) (af (pv 4) (af (CW K rfl rfl rfl T.fh rfl T.DP (af (pv 5) ak)) ak)))) ak)))))
         case YF =>
          exact aD
        case YC =>
         refine' ay ?s82
         case s82 =>
          exact(aC (fM K (pv 6) (aF bq (pv 2) (gv (aK K rfl) T.bB (af (pv 6) ak)))))
  refine⟨_,O,_,_,O,bD.of ht,O,_,_,O,_,_,O,_,_,O,O,_,O,_,O,'h',λt1 j1=>⟨_,O,_,O,_,O,'h',λt2 j2=>⟨_,O,_,O,_,O,'h',λt3 j3=>⟨_,O,_,O,'h',λt4 j4=>⟨(by show(4:Nat)<=sizeLine;decide),λX1 Cg=>⟨_,O,_,O,_,O,_,O,_,O,_,_,O,aN.of (ah Cg _ _ (ah j4 _ _ (ah j3 _ _ (ah j2 _ _ (ah j1 _ _ hl))))),?_⟩⟩⟩⟩⟩⟩
  intro a1 za
  (have u1:=ah (o:=HO.tup [V.str ("asks":Str),V.int ↑i,V.ref l]) j1;have g1:=ai (H:=H) (a:=t1) (o:=HO.tup [V.str ("asks":Str),V.int ↑i,V.ref l]);generalize upd H t1 (HO.tup [V.str ("asks":Str),V.int ↑i,V.ref l])=G1 at u1 g1 j2 j3 j4 Cg za⊢;have u2:=ah (o:=HO.tup [V.str 'e',(λi=>V.int (-i)) 1,V.ref l]) j2;have g2:=ai (H:=G1) (a:=t2) (o:=HO.tup [V.str 'e',(λi=>V.int (-i)) 1,V.ref l]);generalize upd G1 t2 (HO.tup [V.str 'e',(λi=>V.int (-i)) 1,V.ref l])=G2 at u2 g2 j3 j4 Cg za⊢;have u3:=ah (o:=HO.tup [V.str 'e',V.int ↑R.length,V.ref l]) j3;have g3:=ai (H:=G2) (a:=t3) (o:=HO.tup [V.str 'e',V.int ↑R.length,V.ref l]);generalize upd G2 t3 (HO.tup [V.str 'e',V.int ↑R.length,V.ref l])=G3 at u3 g3 j4 Cg za⊢;have u4:=ah (o:=HO.tup [V.str 'e',V.non,V.ref l]) j4;have g4:=ai (H:=G3) (a:=t4) (o:=HO.tup [V.str 'e',V.non,V.ref l]);generalize upd G3 t4 (HO.tup [V.str 'e',V.non,V.ref l])=G4 at u4 g4 Cg za⊢;have uA:=ah (o:=HO.lst [V.ref t1,V.ref t2,V.ref t3,V.ref t4]) Cg;have gA:=ai (H:=G4) (a:=X1) (o:=HO.lst [V.ref t1,V.ref t2,V.ref t3,V.ref t4]);generalize upd G4 X1 (HO.lst [V.ref t1,V.ref t2,V.ref t3,V.ref t4])=GA at uA gA za⊢)
  have sA:aG H GA:=u1.trans (u2.trans (u3.trans (u4.trans uA)))
  have AO:=sA _ _ hl
  have rl:∀G,aG H G->RT (br A G) (e+1) (.ref l) (.lst ts):=λG s=>⟨l,_,rfl,hid al (s _ _ hl),aQ (λ_ _ h=>h.mono (aJ s)) pa⟩
  have g1:=hid (A:=A) (UC _ j1) g1
  have eF:=UC.mono u1
  have g2:=hid (A:=A) (eF _ j2) g2
  have eG:=eF.mono u2
  have g3:=hid (A:=A) (eG _ j3) g3
  have eS:=eG.mono u3
  have g4:=hid (A:=A) (eS _ j4) g4
  have fT:=eS.mono u4
  have UG:=fT.mono uA
  have u1:=aJ (A:=A) u1
  have u2:=aJ (A:=A) u2
  have u3:=aJ (A:=A) u3
  have u4:=aJ (A:=A) u4
  have uA:=aJ (A:=A) uA
  clear eF eG eS fT
  have b1:iI R ps (e+2) (br A GA) (.ref t1):=fR ((u2.trans (u3.trans (u4.trans uA))) _ _ g1) (aY rfl) (aY rfl) (rl _ sA) (AH (by decide +kernel))
  have b2:iI R ps (e+2) (br A GA) (.ref t2):=fR ((u3.trans (u4.trans uA)) _ _ g2) (aY rfl) (aY rfl) (rl _ sA) (iC λf=>uq (show decide ((0:Int)<=-1/\(-1:Int)<=(R.length:Int)-1)=false from abn 'b'))
  have b3:iI R ps (e+2) (br A GA) (.ref t3):=fR ((u4.trans uA) _ _ g3) (aY rfl) (aY rfl) (rl _ sA) (iC λf=>uq (show decide ((0:Int)<=(R.length:Int)/\(R.length:Int)<=(R.length:Int)-1)=false from abn 'b'))
  have b4:iI R ps (e+2) (br A GA) (.ref t4):=fR (uA _ _ g4) (aY rfl) (aY rfl) (rl _ sA) (iC λf=>uq rfl)
  have bX:dB R ps (e+2) (br A GA) [.ref t1,.ref t2,.ref t3,.ref t4]:=.cons b1 (.cons b2 (.cons b3 (.cons b4 .nil)))
  generalize GX:[V.ref t1,.ref t2,.ref t3,.ref t4]=bs at bX gA
  have bl:bs.length=4:=by rw[←GX];rfl
  clear GX b1 b2 b3 b4 u1 u2 u3 u4 uA g1 g2 g3 g4 j1 j2 j3 j4 Cg
  have vn:ys≠[]:=by intro q;rw[q]at pl;simp at pl;omega
  have c1:=Dr ys
  have cL:=Ds vn
  have small:∀m:Nat,m<=100->m<=sizeLine:=λm h=>abv h 'c'
  refine⟨'h',λt5 j5=>⟨_,O,_,O,_,O,_,O,_,O,_,O,_,_,O,aN.of (ah j5 _ _ (ah za _ _ AO)),λa2 h2=>⟨_,_,_,_,O,O,(ah h2 _ _ (ah j5 _ _ (ah za _ _ AO))),ai,?_,λa3 h3=>⟨'h',λt6 j6=>⟨_,O,_,O,_,O,_,_,O,.inl (⟨aN.of (ah j6 _ _ (ah h3 _ _ (ah h2 _ _ (ah j5 _ _ (ah za _ _ AO))))),λa4 h4=>⟨'h',λt7 j7=>⟨'h',λX2 hX2=>⟨_,_,_,_,O,O,(ah hX2 _ _ (ah j7 _ _ (ah h4 _ _ (ah j6 _ _ (ah h3 _ _ (ah h2 _ _ (ah j5 _ _ (ah za _ _ gA)))))))),ai,?_,λX3 ID=>⟨_,O,_,O,_,O,(by show(2:Nat)<=sizeLine;decide),?_⟩⟩⟩⟩⟩)⟩⟩⟩⟩⟩
  ·exact small _ 'b'
  ·exact small (bs.length+3) 'b'
  intro t8 j8
  (have u1:=ah (o:=HO.lst (aZ ys (some 1) none)) za;have g1:=ai (H:=GA) (a:=a1) (o:=HO.lst (aZ ys (some 1) none));generalize upd GA a1 (HO.lst (aZ ys (some 1) none))=G1 at u1 g1 j5 h2 h3 j6 h4 j7 hX2 ID j8⊢;have u2:=ah (o:=HO.tup [V.str 'e',V.int ↑i,V.ref a1]) j5;have g2:=ai (H:=G1) (a:=t5) (o:=HO.tup [V.str 'e',V.int ↑i,V.ref a1]);generalize upd G1 t5 (HO.tup [V.str 'e',V.int ↑i,V.ref a1])=G2 at u2 g2 h2 h3 j6 h4 j7 hX2 ID j8⊢;have u3:=ah (o:=HO.lst (aZ ys (some (-1)) none)) h2;have g3:=ai (H:=G2) (a:=a2) (o:=HO.lst (aZ ys (some (-1)) none));generalize upd G2 a2 (HO.lst (aZ ys (some (-1)) none))=G3 at u3 g3 h3 j6 h4 j7 hX2 ID j8⊢;have u4:=ah (o:=HO.lst (ys++aZ ys (some (-1)) none)) h3;have g4:=ai (H:=G3) (a:=a3) (o:=HO.lst (ys++aZ ys (some (-1)) none));generalize upd G3 a3 (HO.lst (ys++aZ ys (some (-1)) none))=G4 at u4 g4 j6 h4 j7 hX2 ID j8⊢;have u5:=ah (o:=HO.tup [V.str 'e',V.int ↑i,V.ref a3]) j6;have g5:=ai (H:=G4) (a:=t6) (o:=HO.tup [V.str 'e',V.int ↑i,V.ref a3]);generalize upd G4 t6 (HO.tup [V.str 'e',V.int ↑i,V.ref a3])=G5 at u5 g5 h4 j7 hX2 ID j8⊢;have u6:=ah (o:=HO.tup ys) h4;have g6:=ai (H:=G5) (a:=a4) (o:=HO.tup ys);generalize upd G5 a4 (HO.tup ys)=G6 at u6 g6 j7 hX2 ID j8⊢;have u7:=ah (o:=HO.tup [V.str 'e',V.int ↑i,V.ref a4]) j7;have g7:=ai (H:=G6) (a:=t7) (o:=HO.tup [V.str 'e',V.int ↑i,V.ref a4]);generalize upd G6 t7 (HO.tup [V.str 'e',V.int ↑i,V.ref a4])=G7 at u7 g7 hX2 ID j8⊢;have u8:=ah (o:=HO.lst [V.ref t5,V.ref t6,V.ref t7]) hX2;have g8:=ai (H:=G7) (a:=X2) (o:=HO.lst [V.ref t5,V.ref t6,V.ref t7]);generalize upd G7 X2 (HO.lst [V.ref t5,V.ref t6,V.ref t7])=G8 at u8 g8 ID j8⊢;have uB:=ah (o:=HO.lst (bs++[V.ref t5,V.ref t6,V.ref t7])) ID;have gB:=ai (H:=G8) (a:=X3) (o:=HO.lst (bs++[V.ref t5,V.ref t6,V.ref t7]));generalize upd G8 X3 (HO.lst (bs++[V.ref t5,V.ref t6,V.ref t7]))=GB at uB gB j8⊢)
  have v5:=u6.trans (u7.trans (u8.trans uB))
  have v3:=u4.trans (u5.trans v5)
  have sF:aG GA GB:=u1.trans (u2.trans (u3.trans v3))
  have sB:=sA.trans sF
  have VG:=kn.mono (aJ sB)
  have hlB:=sB _ _ hl
  have g1:=hid (A:=A) (UG _ za) g1
  have eF:=UG.mono u1
  have g2:=hid (A:=A) (eF _ j5) g2
  have eG:=eF.mono u2
  have g3:=hid (A:=A) (eG _ h2) g3
  have eS:=eG.mono u3
  have g4:=hid (A:=A) (eS _ h3) g4
  have fT:=eS.mono u4
  have g5:=hid (A:=A) (fT _ j6) g5
  have fK:=fT.mono u5
  have g6:=hid (A:=A) (fK _ h4) g6
  have fL:=fK.mono u6
  have g7:=hid (A:=A) (fL _ j7) g7
  have gb:=fL.mono u7
  have g8:=hid (A:=A) (gb _ hX2) g8
  have mP:=gb.mono u8
  have lvB:=mP.mono uB
  have u1:=aJ (A:=A) u1
  have u2:=aJ (A:=A) u2
  have u3:=aJ (A:=A) u3
  have u4:=aJ (A:=A) u4
  have u5:=aJ (A:=A) u5
  have u6:=aJ (A:=A) u6
  have u7:=aJ (A:=A) u7
  have u8:=aJ (A:=A) u8
  have uB:=aJ (A:=A) uB
  have v5:=aJ (A:=A) v5
  have v3:=aJ (A:=A) v3
  clear eF eG eS fT fK fL gb mP
  have b1:iI R ps (e+2) (br A GB) (.ref t5):=Dt ((u3.trans v3) _ _ g2) ((u2.trans (u3.trans v3)) _ _ g1) VG.cut hi 'b'
  have b2:iI R ps (e+2) (br A GB) (.ref t6):=Dt (v5 _ _ g5) ((u5.trans v5) _ _ g4) (VG.app VG.cut) hi (by rw[abq];omega)
  have b3:iI R ps (e+2) (br A GB) (.ref t7):=fR ((u8.trans uB) _ _ g7) (aY rfl) (aY rfl) (show RT (br A GB) (e+1) (.ref a4) (.tup ts) from⟨a4,_,rfl,(u7.trans (u8.trans uB)) _ _ g6,aQ (λ_ _ h=>h.mono (aJ sB)) pa⟩) (iC λf=>Bo rfl)
  have bX:dB R ps (e+2) (br A GB) (bs++[.ref t5,.ref t6,.ref t7]):=(bX.mono (aJ sF)).app (.cons b1 (.cons b2 (.cons b3 .nil)))
  clear sF sA AO
  generalize GX:bs++[V.ref t5,.ref t6,.ref t7]=bs at bX gB
  have bl:bs.length=7:=by rw[←GX,abq,bl];rfl
  clear GX b1 b2 b3 u1 u2 u3 u4 u5 u6 u7 u8 uB g1 g2 g3 g4 g5 g6 g7 g8 v5 v3 j5 h2 h3 j6 h4 j7 hX2 ID
  refine⟨_,O,_,O,O,_,O,'h',λt9 j9=>⟨_,O,_,O,_,O,?_,_,O,'h',λLn Qu=>⟨_,O,_,O,'c',λB1 zc=>⟨_,O,_,O,_,_,O,aN.of (ah zc _ _ (ah Qu _ _ (ah j9 _ _ (ah j8 _ _ hlB)))),λB2 hB2=>⟨_,_,_,_,O,O,(ah hB2 _ _ ai),ai,?_,λB3 Ci=>⟨'h',λyN Ec=>⟨(by show(4:Nat)<=sizeLine;decide),λX4 xH=>⟨_,_,_,_,O,O,(ah xH _ _ (ah Ec _ _ (ah Ci _ _ (ah hB2 _ _ (ah zc _ _ (ah Qu _ _ (ah j9 _ _ (ah j8 _ _ gB)))))))),ai,?_,λX5 pG=>⟨_,O,_,O,_,O,_,O,'h',?_⟩⟩⟩⟩⟩⟩⟩⟩⟩
  ·exact abr (Nat.log2_le_self _) (show(i:Int).natAbs<1920 by omega)
  ·exact small _ (show 1+(aZ ys (some 1) none).length<=100 by omega)
  ·exact small (bs.length+4) 'b'
  generalize Str.ofString (toString (i:Int))=wi at zc hB2 Ci Ec xH pG⊢
  (have u1:=ah (o:=HO.tup [V.str 'e',V.int ↑i]) j8;have g1:=ai (H:=GB) (a:=t8) (o:=HO.tup [V.str 'e',V.int ↑i]);generalize upd GB t8 (HO.tup [V.str 'e',V.int ↑i])=G1 at u1 g1 j9 Qu zc hB2 Ci Ec xH pG⊢;have u2:=ah (o:=HO.tup [V.str 'e',V.bl (decide (V.int ↑i=V.int 1)),V.ref l]) j9;have g2:=ai (H:=G1) (a:=t9) (o:=HO.tup [V.str 'e',V.bl (decide (V.int ↑i=V.int 1)),V.ref l]);generalize upd G1 t9 (HO.tup [V.str 'e',V.bl (decide (V.int ↑i=V.int 1)),V.ref l])=G2 at u2 g2 Qu zc hB2 Ci Ec xH pG⊢;have u3:=ah (o:=HO.tup [V.str 'e',V.str wi,V.ref l]) Qu;have g3:=ai (H:=G2) (a:=Ln) (o:=HO.tup [V.str 'e',V.str wi,V.ref l]);generalize upd G2 Ln (HO.tup [V.str 'e',V.str wi,V.ref l])=G3 at u3 g3 zc hB2 Ci Ec xH pG⊢;have u4:=ah (o:=HO.lst [V.non]) zc;have g4:=ai (H:=G3) (a:=B1) (o:=HO.lst [V.non]);generalize upd G3 B1 (HO.lst [V.non])=G4 at u4 g4 hB2 Ci Ec xH pG⊢;have u5:=ah (o:=HO.lst (aZ ys (some 1) none)) hB2;have g5:=ai (H:=G4) (a:=B2) (o:=HO.lst (aZ ys (some 1) none));generalize upd G4 B2 (HO.lst (aZ ys (some 1) none))=G5 at u5 g5 Ci Ec xH pG⊢;have u6:=ah (o:=HO.lst ([V.non]++aZ ys (some 1) none)) Ci;have g6:=ai (H:=G5) (a:=B3) (o:=HO.lst ([V.non]++aZ ys (some 1) none));generalize upd G5 B3 (HO.lst ([V.non]++aZ ys (some 1) none))=G6 at u6 g6 Ec xH pG⊢;have u7:=ah (o:=HO.tup [V.str 'e',V.int ↑i,V.ref B3]) Ec;have g7:=ai (H:=G6) (a:=yN) (o:=HO.tup [V.str 'e',V.int ↑i,V.ref B3]);generalize upd G6 yN (HO.tup [V.str 'e',V.int ↑i,V.ref B3])=G7 at u7 g7 xH pG⊢;have u8:=ah (o:=HO.lst [V.ref t8,V.ref t9,V.ref Ln,V.ref yN]) xH;have g8:=ai (H:=G7) (a:=X4) (o:=HO.lst [V.ref t8,V.ref t9,V.ref Ln,V.ref yN]);generalize upd G7 X4 (HO.lst [V.ref t8,V.ref t9,V.ref Ln,V.ref yN])=G8 at u8 g8 pG⊢;have uC:=ah (o:=HO.lst (bs++[V.ref t8,V.ref t9,V.ref Ln,V.ref yN])) pG;have gC:=ai (H:=G8) (a:=X5) (o:=HO.lst (bs++[V.ref t8,V.ref t9,V.ref Ln,V.ref yN]));generalize upd G8 X5 (HO.lst (bs++[V.ref t8,V.ref t9,V.ref Ln,V.ref yN]))=GC at uC gC⊢)
  have v5:=u6.trans (u7.trans (u8.trans uC))
  have v3:=u4.trans (u5.trans v5)
  have sF:aG GB GC:=u1.trans (u2.trans (u3.trans v3))
  have sC:=sB.trans sF
  have knC:=kn.mono (aJ sC)
  have hlC:=sC _ _ hl
  have rlC:=rl _ sC
  have pn0:(aE (R.getD i []) ps).length≠0:=by omega
  have g1:=hid (A:=A) (lvB _ j8) g1
  have eF:=lvB.mono u1
  have g2:=hid (A:=A) (eF _ j9) g2
  have eG:=eF.mono u2
  have g3:=hid (A:=A) (eG _ Qu) g3
  have eS:=eG.mono u3
  have g4:=hid (A:=A) (eS _ zc) g4
  have fT:=eS.mono u4
  have g5:=hid (A:=A) (fT _ hB2) g5
  have fK:=fT.mono u5
  have g6:=hid (A:=A) (fK _ Ci) g6
  have fL:=fK.mono u6
  have g7:=hid (A:=A) (fL _ Ec) g7
  have gb:=fL.mono u7
  have g8:=hid (A:=A) (gb _ xH) g8
  have mP:=gb.mono u8
  have lvC:=mP.mono uC
  have u1:=aJ (A:=A) u1
  have u2:=aJ (A:=A) u2
  have u3:=aJ (A:=A) u3
  have u4:=aJ (A:=A) u4
  have u5:=aJ (A:=A) u5
  have u6:=aJ (A:=A) u6
  have u7:=aJ (A:=A) u7
  have u8:=aJ (A:=A) u8
  have uC:=aJ (A:=A) uC
  have v5:=aJ (A:=A) v5
  have v3:=aJ (A:=A) v3
  clear eF eG eS fT fK fL gb mP
  have b1:iI R ps (e+2) (br A GC) (.ref t8):=⟨_,kM (n:=e+1) ((u2.trans (u3.trans v3)) _ _ g1) (aY rfl) (aY rfl),Dq (by decide +kernel)⟩
  have b2:iI R ps (e+2) (br A GC) (.ref t9):=fR ((u3.trans v3) _ _ g2) (aY rfl) (aY rfl) rlC (iC λf=>uq rfl)
  have b3:iI R ps (e+2) (br A GC) (.ref Ln):=fR (v3 _ _ g3) (aY rfl) (aY rfl) rlC (iC λf=>uq rfl)
  have b4:iI R ps (e+2) (br A GC) (.ref yN):=Bv ((u8.trans uC) _ _ g7) ((u7.trans (u8.trans uC)) _ _ g6) (Kn.app (λv hv=>by rw[abf.mp hv];exact⟨_,aY rfl⟩) knC.cut) hi pn0 (y:=.non) rfl (aY rfl) λm q _=>jx rfl
  have bX:dB R ps (e+2) (br A GC) (bs++[.ref t8,.ref t9,.ref Ln,.ref yN]):=(bX.mono (aJ sF)).app (.cons b1 (.cons b2 (.cons b3 (.cons b4 .nil))))
  clear sF sB VG hlB
  generalize GX:bs++[V.ref t8,.ref t9,.ref Ln,.ref yN]=bs at bX gC
  have bl:bs.length=11:=by rw[←GX,abq,bl];rfl
  clear GX b1 b2 b3 b4 u1 u2 u3 u4 u5 u6 u7 u8 uC g1 g2 g3 g4 g5 g6 g7 g8 v5 v3 j8 j9 Qu zc hB2 Ci Ec xH pG
  dsimp only[bQ]
  refine λC1 Jf=>⟨_,rfl,_,rfl,_,rfl,'c',λC2 GV=>⟨(by show(4:Nat)<=sizeLine;decide),λC3 Eb=>⟨_,rfl,_,rfl,'h',λC4 D0=>⟨_,rfl,_,rfl,'h',λC5 Cj=>⟨_,rfl,_,rfl,'h',λC6 LI=>⟨(by show(5:Nat)<=sizeLine;decide),λX6 yO=>⟨_,_,_,_,rfl,rfl,(ah yO _ _ (ah LI _ _ (ah Cj _ _ (ah D0 _ _ (ah Eb _ _ (ah GV _ _ (ah Jf _ _ gC))))))),ai,?_,λX7 zZ=>⟨_,rfl,_,_,rfl,.inl (aN.of (ah zZ _ _ (ah yO _ _ (ah LI _ _ (ah Cj _ _ (ah D0 _ _ (ah Eb _ _ (ah GV _ _ (ah Jf _ _ hlC))))))))),_,_,rfl,rfl,_,rfl,?_⟩⟩⟩⟩⟩⟩⟩⟩
  ·exact small (bs.length+5) 'b'
  (have u1:=ah (o:=HO.lst [V.str 'e',V.int ↑i,V.ref l]) Jf;have g1:=ai (H:=GC) (a:=C1) (o:=HO.lst [V.str 'e',V.int ↑i,V.ref l]);generalize upd GC C1 (HO.lst [V.str 'e',V.int ↑i,V.ref l])=G1 at u1 g1 GV Eb D0 Cj LI yO zZ⊢;have u2:=ah (o:=HO.lst []) GV;have g2:=ai (H:=G1) (a:=C2) (o:=HO.lst []);generalize upd G1 C2 (HO.lst [])=G2 at u2 g2 Eb D0 Cj LI yO zZ⊢;have u3:=ah (o:=HO.tup [V.str 'e',V.int ↑i,V.ref l,V.ref C2]) Eb;have g3:=ai (H:=G2) (a:=C3) (o:=HO.tup [V.str 'e',V.int ↑i,V.ref l,V.ref C2]);generalize upd G2 C3 (HO.tup [V.str 'e',V.int ↑i,V.ref l,V.ref C2])=G3 at u3 g3 D0 Cj LI yO zZ⊢;have u4:=ah (o:=HO.tup [V.str 'e',V.int ↑i,V.non]) D0;have g4:=ai (H:=G3) (a:=C4) (o:=HO.tup [V.str 'e',V.int ↑i,V.non]);generalize upd G3 C4 (HO.tup [V.str 'e',V.int ↑i,V.non])=G4 at u4 g4 Cj LI yO zZ⊢;have u5:=ah (o:=HO.tup [V.str 'e',V.int ↑i,V.int 7]) Cj;have g5:=ai (H:=G4) (a:=C5) (o:=HO.tup [V.str 'e',V.int ↑i,V.int 7]);generalize upd G4 C5 (HO.tup [V.str 'e',V.int ↑i,V.int 7])=G5 at u5 g5 LI yO zZ⊢;have u6:=ah (o:=HO.tup [V.int 0,V.int ↑i,V.ref l]) LI;have g6:=ai (H:=G5) (a:=C6) (o:=HO.tup [V.int 0,V.int ↑i,V.ref l]);generalize upd G5 C6 (HO.tup [V.int 0,V.int ↑i,V.ref l])=G6 at u6 g6 yO zZ⊢;have u7:=ah (o:=HO.lst [V.ref C1,V.ref C3,V.ref C4,V.ref C5,V.ref C6]) yO;have g7:=ai (H:=G6) (a:=X6) (o:=HO.lst [V.ref C1,V.ref C3,V.ref C4,V.ref C5,V.ref C6]);generalize upd G6 X6 (HO.lst [V.ref C1,V.ref C3,V.ref C4,V.ref C5,V.ref C6])=G7 at u7 g7 zZ⊢;have uD:=ah (o:=HO.lst (bs++[V.ref C1,V.ref C3,V.ref C4,V.ref C5,V.ref C6])) zZ;have gD:=ai (H:=G7) (a:=X7) (o:=HO.lst (bs++[V.ref C1,V.ref C3,V.ref C4,V.ref C5,V.ref C6]));generalize upd G7 X7 (HO.lst (bs++[V.ref C1,V.ref C3,V.ref C4,V.ref C5,V.ref C6]))=GD at uD gD⊢)
  have v5:=u6.trans (u7.trans uD)
  have v3:=u4.trans (u5.trans v5)
  have sF:aG GC GD:=u1.trans (u2.trans (u3.trans v3))
  have sD:=sC.trans sF
  have knD:=kn.mono (aJ sD)
  have hlD:=sD _ _ hl
  have rlD:=rl _ sD
  have g1:=hid (A:=A) (lvC _ Jf) g1
  have eF:=lvC.mono u1
  have g2:=hid (A:=A) (eF _ GV) g2
  have eG:=eF.mono u2
  have g3:=hid (A:=A) (eG _ Eb) g3
  have eS:=eG.mono u3
  have g4:=hid (A:=A) (eS _ D0) g4
  have fT:=eS.mono u4
  have g5:=hid (A:=A) (fT _ Cj) g5
  have fK:=fT.mono u5
  have g6:=hid (A:=A) (fK _ LI) g6
  have fL:=fK.mono u6
  have g7:=hid (A:=A) (fL _ yO) g7
  have gb:=fL.mono u7
  have lvD:=gb.mono uD
  have u1:=aJ (A:=A) u1
  have u2:=aJ (A:=A) u2
  have u3:=aJ (A:=A) u3
  have u4:=aJ (A:=A) u4
  have u5:=aJ (A:=A) u5
  have u6:=aJ (A:=A) u6
  have u7:=aJ (A:=A) u7
  have uD:=aJ (A:=A) uD
  have v5:=aJ (A:=A) v5
  have v3:=aJ (A:=A) v3
  clear eF eG eS fT fK fL gb
  have b1:iI R ps (e+2) (br A GD) (.ref C1):=⟨_,show RT (br A GD) (e+2) (.ref C1) (.lst [.at (.str 'e'),.at (.int (i:Int)),.lst ts]) from⟨C1,_,rfl,(u2.trans (u3.trans v3)) _ _ g1,.cons (aY rfl) (.cons (aY rfl) (.cons rlD .nil))⟩,λm=>jx rfl⟩
  have b2:iI R ps (e+2) (br A GD) (.ref C3):=⟨_,show RT (br A GD) (e+2) (.ref C3) (.tup [.at (.str 'e'),.at (.int (i:Int)),.lst ts,.lst []]) from⟨C3,_,rfl,v3 _ _ g3,.cons (aY rfl) (.cons (aY rfl) (.cons rlD (.cons ⟨C2,_,rfl,(u3.trans v3) _ _ g2,.nil⟩ .nil)))⟩,λm=>xD ⟨(by show(3:Nat)≠1;decide),(by show(3:Nat)≠2;decide)⟩⟩
  have b3:iI R ps (e+2) (br A GD) (.ref C4):=fR ((u5.trans v5) _ _ g4) (aY rfl) (aY rfl) (aY rfl) (iC λf=>Bo rfl)
  have b4:iI R ps (e+2) (br A GD) (.ref C5):=fR (v5 _ _ g5) (aY rfl) (aY rfl) (aY rfl) (iC λf=>Bo rfl)
  have b5:iI R ps (e+2) (br A GD) (.ref C6):=fR ((u7.trans uD) _ _ g6) (aY rfl) (aY rfl) rlD λm=>Dm rfl
  have bX:dB R ps (e+2) (br A GD) (bs++[.ref C1,.ref C3,.ref C4,.ref C5,.ref C6]):=(bX.mono (aJ sF)).app (.cons b1 (.cons b2 (.cons b3 (.cons b4 (.cons b5 .nil)))))
  clear sF sC knC hlC rlC
  generalize GX:bs++[V.ref C1,.ref C3,.ref C4,.ref C5,.ref C6]=bs at bX gD
  have bl:bs.length=16:=by rw[←GX,abq,bl];rfl
  clear GX b1 b2 b3 b4 b5 u1 u2 u3 u4 u5 u6 u7 uD g1 g2 g3 g4 g5 g6 g7 v5 v3 Jf GV Eb D0 Cj LI yO zZ
  refine NT (λc6=>?_) (λc6=>?_)
  ·have c6:1<ys.length:=by omega
   have cp:=gn ys none (some 1)
   obtain⟨y1,hy1⟩:∃y1,ys[1]?=some y1:=⟨_,abk c6⟩
   obtain⟨yL,hyL⟩:∃yL,ys[ys.length-1]?=some yL:=⟨_,abk 'b'⟩
   obtain⟨x1,MK,rx1⟩:=aI pa _ _ hy1
   obtain⟨xL,hxL,rxL⟩:=aI pa _ _ hyL
   have e1:(aZ ys (some 1) none++aZ ys none (some 1))[0]?=some y1:=by
    rw[HX,aco (by rw[acy];omega),List.getElem?_drop];exact hy1
   have e2:ys.reverse[0]?=some yL:=by rw[List.getElem?_reverse 'b'];exact hyL
   refine⟨_,O,_,O,_,O,_,O,_,O,_,_,O,aN.of hlD,λd1 k1=>⟨_,O,_,O,_,_,O,aN.of (ah k1 _ _ hlD),λd2 k2=>⟨_,_,_,_,O,O,(ah k2 _ _ ai),ai,?_,λd3 k3=>⟨'h',λt1 j1=>⟨_,O,_,O,_,O,_,_,O,aN.of (ah j1 _ _ (ah k3 _ _ (ah k2 _ _ (ah k1 _ _ hlD)))),λd4 k4=>⟨'h',λt2 j2=>⟨(by show(2:Nat)<=sizeLine;decide),λX8 Fj=>⟨_,_,_,_,O,O,(ah Fj _ _ (ah j2 _ _ (ah k4 _ _ (ah j1 _ _ (ah k3 _ _ (ah k2 _ _ (ah k1 _ _ gD))))))),ai,?_,λX9 IE=>⟨_,O,_,O,_,O,_,_,O,.inl (aN.of ai),_,_,O,O,?_,?_⟩⟩⟩⟩⟩⟩⟩⟩⟩
   ·exact small _ 'b'
   ·exact small (bs.length+2) 'b'
   ·rw[abq,bl];show(0:Int)<((16+2:Nat):Int);omega
   (have u1:=ah (o:=HO.lst (aZ ys (some 1) none)) k1;have g1:=ai (H:=GD) (a:=d1) (o:=HO.lst (aZ ys (some 1) none));generalize upd GD d1 (HO.lst (aZ ys (some 1) none))=G1 at u1 g1 k2 k3 j1 k4 j2 Fj IE⊢;have u2:=ah (o:=HO.lst (aZ ys none (some 1))) k2;have g2:=ai (H:=G1) (a:=d2) (o:=HO.lst (aZ ys none (some 1)));generalize upd G1 d2 (HO.lst (aZ ys none (some 1)))=G2 at u2 g2 k3 j1 k4 j2 Fj IE⊢;have u3:=ah (o:=HO.lst (aZ ys (some 1) none++aZ ys none (some 1))) k3;have g3:=ai (H:=G2) (a:=d3) (o:=HO.lst (aZ ys (some 1) none++aZ ys none (some 1)));generalize upd G2 d3 (HO.lst (aZ ys (some 1) none++aZ ys none (some 1)))=G3 at u3 g3 j1 k4 j2 Fj IE⊢;have u4:=ah (o:=HO.tup [V.str 'e',V.int ↑i,V.ref d3]) j1;have g4:=ai (H:=G3) (a:=t1) (o:=HO.tup [V.str 'e',V.int ↑i,V.ref d3]);generalize upd G3 t1 (HO.tup [V.str 'e',V.int ↑i,V.ref d3])=G4 at u4 g4 k4 j2 Fj IE⊢;have u5:=ah (o:=HO.lst ys.reverse) k4;have g5:=ai (H:=G4) (a:=d4) (o:=HO.lst ys.reverse);generalize upd G4 d4 (HO.lst ys.reverse)=G5 at u5 g5 j2 Fj IE⊢;have u6:=ah (o:=HO.tup [V.str 'e',V.int ↑i,V.ref d4]) j2;have g6:=ai (H:=G5) (a:=t2) (o:=HO.tup [V.str 'e',V.int ↑i,V.ref d4]);generalize upd G5 t2 (HO.tup [V.str 'e',V.int ↑i,V.ref d4])=G6 at u6 g6 Fj IE⊢;have u7:=ah (o:=HO.lst [V.ref t1,V.ref t2]) Fj;have g7:=ai (H:=G6) (a:=X8) (o:=HO.lst [V.ref t1,V.ref t2]);generalize upd G6 X8 (HO.lst [V.ref t1,V.ref t2])=G7 at u7 g7 IE⊢;have uE:=ah (o:=HO.lst (bs++[V.ref t1,V.ref t2])) IE;have gE:=ai (H:=G7) (a:=X9) (o:=HO.lst (bs++[V.ref t1,V.ref t2]));generalize upd G7 X9 (HO.lst (bs++[V.ref t1,V.ref t2]))=GE at uE gE⊢)
   have v5:=u6.trans (u7.trans uE)
   have v3:=u4.trans (u5.trans v5)
   have sF:aG GD GE:=u1.trans (u2.trans (u3.trans v3))
   have sE:=sD.trans sF
   have knE:=kn.mono (aJ sE)
   have g1:=hid (A:=A) (lvD _ k1) g1
   have eF:=lvD.mono u1
   have g2:=hid (A:=A) (eF _ k2) g2
   have eG:=eF.mono u2
   have g3:=hid (A:=A) (eG _ k3) g3
   have eS:=eG.mono u3
   have g4:=hid (A:=A) (eS _ j1) g4
   have fT:=eS.mono u4
   have g5:=hid (A:=A) (fT _ k4) g5
   have fK:=fT.mono u5
   have g6:=hid (A:=A) (fK _ j2) g6
   have fL:=fK.mono u6
   have g7:=hid (A:=A) (fL _ Fj) g7
   have gb:=fL.mono u7
   have lvE:=gb.mono uE
   have u1:=aJ (A:=A) u1
   have u2:=aJ (A:=A) u2
   have u3:=aJ (A:=A) u3
   have u4:=aJ (A:=A) u4
   have u5:=aJ (A:=A) u5
   have u6:=aJ (A:=A) u6
   have u7:=aJ (A:=A) u7
   have uE:=aJ (A:=A) uE
   have v5:=aJ (A:=A) v5
   have v3:=aJ (A:=A) v3
   clear eF eG eS fT fK fL gb
   have b1:iI R ps (e+2) (br A GE) (.ref t1):=Bv ((u5.trans v5) _ _ g4) (v3 _ _ g3) (knE.cut.app knE.cut) hi pn0 e1 (rx1.mono (aJ sE)) λm q hq=>sw m 1 q x1 'c' hq MK
   have b2:iI R ps (e+2) (br A GE) (.ref t2):=Bv ((u7.trans uE) _ _ g6) (v5 _ _ g5) knE.rev hi pn0 e2 (rxL.mono (aJ sE)) λm q hq=>sw m _ q xL 'b' hq hxL
   have bX:dB R ps (e+2) (br A GE) (bs++[.ref t1,.ref t2]):=(bX.mono (aJ sF)).app (.cons b1 (.cons b2 .nil))
   obtain⟨v,av,vm⟩:=ET (xs:=bs++[V.ref t1,.ref t2]) (by simp) n
   exact⟨X9,_,_,v,O,O,aN.of gE,av,k v _ (bX v vm) sE⟩
  ·obtain⟨v,av,vm⟩:=ET (xs:=bs) (by intro q;rw[q]at bl;cases bl) n
   refine⟨_,O,_,O,_,O,X7,bs,O,.inl (aN.of gD),_,_,O,O,by omega,X7,bs,_,v,O,O,aN.of gD,av,?_⟩
   exact k v _ (bX v vm) sD
inductive gW(K:W.Frag)(D:Nat)(vs:List V)(H:Hp)(Q:VK)(E_:XK):Prop where
 |mk (A:Hp) (R:List (List Nat)) (ps:List Nat) (T:PT) (v0:V) (c:Int) (deep:Nat):(Jb A H)->(vs=[v0,.int (R.length:Int),.int c,.int (deep:Int)])->(1<=D)->(eU A H (D-1) v0 T)->(AG R (D-1) ps T)->(ps≠[])->(ps.Nodup)->(ps.length<=20)->(R.length<=20)->(0<=c)->(c<=2000000000)->(deep+D<=100)->(∀v H',iI R ps (2*D+3) (br A H') v->aG H H'->Q v H')->gW K D vs H Q E_
theorem sP:∀d:Nat,bu P w K mg base eH (1+1*d) (aM 50) (aR 50) ["_law_tree","_law_many","_law_cell","_law_deep_here"] (gW K d):=by
 intro d
 induction d with
 |zero=>exact⟨λvs H Q E h=>by exfalso;obtain⟨A,R,ps,T,v0,c,deep,_,rfl,hd,_⟩:=h;omega,λA outer s H args us vs Q E _ _ _ _ h=>by exfalso;obtain⟨A,R,ps,T,v0,c,deep,_,rfl,hd,_⟩:=h;omega⟩
 |succ d ih =>
  have kT:=ih
  show bu P w K mg base eH (1+1*d+1) (aM 50) (aR 50) ["_law_tree","_law_many","_law_cell","_law_deep_here"] (gW K (d+1))
  have bN:=f9 T
  have uT:=sO T
  have sQ:=qN T
  refine T.kP.ok gS 'g' 'a'
  ·obtain⟨A,R,ps,T,v0,c,deep,_,rfl,_⟩:=h;rfl
  ·have Fc:=hr
   have hr:dM 1 _:=hr.mono 'b'
   obtain⟨A,R,ps,U,v0,c,deep,lv,rfl,hD,tr,ok,Ea,hnd,hpl,hR,c0,c1,hdp,k⟩:=h
   have tr:eU A H d v0 U:=tr
   have ok:AG R d ps U:=ok
   refine⟨_,(aq (dj 4 gS.nd (dR bN hr T.dI T.cN.kp T.dH (af (pv 2) (af (aF bV au (aF fm au (pv 3))) ak))))
   (aq (aO (cC aU (jK K (pv 0) au) az) (ay (aC (dR sQ hr T.sd T.jV.kp T.rZ (af (pv 0) (af (pv 4) ak))))) aD)
   (aq (aO (cC aU (aF bq (pv 4) au) au) (ay (aC (dR uT hr T.uM T.k8.kp T.uJ (af (pv 0) (af (pv 1) (af (aF bS (pv 4) au) ak)))))) aD)
   (aq (dj 5 gS.nd (aF bq (aF bS (pv 4) au) (gv (aK K rfl) T.bB (af (jK K (pv 0) au) ak))))
   (aq (dj 6 gS.nd (EG (cy K rfl) T.fh (af (jK K (pv 0) au) ak)))
   (aq (dU (dR kT Fc T.pT T.kP.kp T.pS (af (fM K (pv 6) (pv 5)) (af (pv 1) (af (pv 2) (af (aF bV (pv 3) au) ak)))) (hkk:=abh _)) (lH (pv 6) (pv 5) set_list))
   (ay (aC (aB (af (jK K (pv 0) au) (af (jK K (pv 0) au) (af (pv 6) ak)))))))))))),?_⟩
   cases U with
   |leaf qs =>
    obtain⟨rfl,hal⟩:=ok.leaf
    have tr:∃t l,v0=.ref t/\A t=none/\A l=none/\H t=some (.tup [.str 'd',.ref l])/\H l=some (.lst (qs.map nV)):=by cases d<;>exact tr
    obtain⟨t,l,rfl,_,_,ht,hl⟩:=tr
    have pF:fu [V.str 'd',V.ref l] 0=some (.str 'd'):=rfl
    refine⟨_,O,_,O,_,_,O,O,.inl ⟨'b','b'⟩,_,_,O,O,_,_,O,'b','b','b','b',?_⟩
    intro x x0 x1
    dsimp only[bQ]
    refine⟨_,O,_,_,_,_,O,O,bD.of ht,O,O,_,O,xB rfl (⟨_,O,_,O,?_⟩)⟩
    exact⟨A,R,qs,t,l,x,lv,O,ht,hl,Ea,hnd,hpl,λv H' b s=>k v H' (b.up 'b') s⟩
   |ask i bs =>
    cases d with
    |zero=>exact tr.elim
    |succ d =>
    obtain⟨t,l,es,rfl,_,al,ht,hl,pa⟩:=tr
    obtain⟨hi,MO,hbn,hok⟩:=ok
    have pF:fu [V.str 'e',V.int (i:Int),V.ref l] 0=some (.str 'e'):=rfl
    have D9:fu [V.str 'e',V.int (i:Int),V.ref l] 1=some (.int (i:Int)):=rfl
    have at2:fu [V.str 'e',V.int (i:Int),V.ref l] 2=some (.ref l):=rfl
    have n4:¬(V.str 'e'=V.str 'd'):=by decide +kernel
    refine⟨_,O,_,O,_,_,O,O,.inl ⟨'b','b'⟩,_,_,O,O,_,_,O,'b','b','b','b',?_⟩
    intro x x0 x1
    dsimp only[bQ]
    refine⟨_,O,_,_,_,_,O,O,bD.of ht,O,O,_,O,jk n4 (⟨_,O,_,_,O,O,'b',O,_,O,?_⟩)⟩
    have pl:=pa.length
    have Qg:=iw (r:=R.getD i []) (ps:=ps)
    refine NT (λc6=>?_) (λc6=>?_)
    ·have pr:Paired (RT (br A H) (2*d+2)) es (bs.map (kK d)):=by
      clear pl MO hbn hok hl tr ok
      induction pa with
      |nil=>exact .nil
      |cons h _ ih=>exact .cons (eU.rt (eU.hid h)) ih
     refine⟨_,O,_,O,_,O,_,_,O,O,⟨'b','b'⟩,A,R,ps,t,l,i,2*d+2,_,es,bs.map (kK d),lv,al,O,ht,hl,pr,hi,hR,by rw[aa9];exact MO,by simpa using hbn,by rw[aa9];omega,λm j q y hj hq hy=>?_,λv H' b s=>k v H' (b.up 'b') s⟩
     rw[abM]at hy
     cases h5:bs[j]? with
     |none=>rw[h5]at hy;cases hy
     |some b =>
      rw[h5]at hy;cases hy
      have hjl:=(abd.mp h5).1
      obtain⟨q5,hq5⟩:∃q5,(aE (R.getD i []) ps)[j]?=some q5:=⟨_,abk 'b'⟩
      exact AI (hok j q5 b hq5 h5) (cD q (abi hq)).1 λy hy=>HY hq hq5 (λz=>hj z.symm) hy
    have hbp:=abX.mpr hbn
    refine⟨_,O,_,_,O,O,⟨'b','b'⟩,_,O,_,_,_,_,O,O,bD.of ht,O,_,_,O,.inl (aN.of hl),_,_,O,O,'b',_,O,_,_,_,_,O,O,bD.of ht,O,_,_,O,.inl (aN.of hl),λy1=>?_⟩
    intro hy1
    have j0:=abN (x / 4) (show(es.length:Int)≠0 by omega)
    have j1:=abL (x / 4) (show(0:Int)<(es.length:Int) by omega)
    obtain⟨j,hj⟩:=acf j0
    have hjl:j<es.length:=by omega
    obtain⟨w1,hw1⟩:∃w1,es[j]?=some w1:=⟨_,abk hjl⟩
    obtain⟨b,hb,tb⟩:=aI pa j w1 hw1
    obtain⟨q,hq⟩:∃q,(aE (R.getD i []) ps)[j]?=some q:=⟨_,abk 'b'⟩
    have okb:=hok j q b hq hb
    have xG:=abi hq
    have aj:fu es (j:Int)=some w1:=bh hw1
    have sY:=ah (o:=HO.lst es) hy1
    have gY:=ai (H:=H) (a:=y1) (o:=HO.lst es)
    generalize upd H y1 (HO.lst es)=G at sY gY⊢
    dsimp only[bQ]
    rw[hj]
    refine⟨_,O,_,O,y1,es,_,w1,O,O,aN.of gY,aj,_,O,_,O,_,O,_,_,O,O,?_⟩
    refine⟨upd A y1 (.lst es),R,q,b,w1,c,deep+1,λz hz=>?_,O,by omega,eU.mono sY (eU.more hy1 tb),okb,(cD q xG).1,KH hnd q xG,abv (jQ xG) hpl,hR,c0,c1,by omega,λv H' bv s=>?_⟩
    ·rw[aH (λe=>by rw[e,gY]at hz;cases hz)]
     exact lv _ (sY.free hz)
    refine⟨_,O,_,O,y1,es,_,j,O,O,s _ _ gY,AK hjl,?_⟩
    have s2:aG H (upd H' y1 (.lst (es.set j v))):=aL hy1 (sY.trans s)
    have g2:=ai (H:=H') (a:=y1) (o:=HO.lst (es.set j v))
    have s3:∀{G3:Hp},aG (upd H' y1 (.lst (es.set j v))) G3->aG (br (upd A y1 (.lst es)) H') (br A G3):=λz=>Bw z
    generalize upd H' y1 (.lst (es.set j v))=G2 at s2 g2 s3⊢
    have GU:=s2 _ _ ht
    refine⟨_,O,_,_,_,_,O,O,bD.of GU,O,_,O,_,_,_,_,O,O,bD.of GU,O,_,O,'h',λt2 Jc=>k _ _ ?_ (aL (s2.free Jc) s2)⟩
    have s4:=ah (o:=HO.tup [.str 'e',.int (i:Int),.ref y1]) Jc
    have pa2:Paired (eU GJ (br A (upd G2 t2 (.tup [.str 'e',.int (i:Int),.ref y1]))) d) es bs:=aQ (λ_ _ h=>eU.e0 (eU.mono (aJ (s2.trans s4)) (eU.hid h))) pa
    exact(ML (j:=j) (hid (lv _ (s2.free Jc)) ai) (hid (lv _ hy1) (s4 _ _ g2)) pa2 hi hq hjl 'b' (bv.mono (s3 s4))).up 'b'
theorem yP:zzz T eH 8 50 ["_law_tree","_law_many","_law_cell","_law_deep_here"] (gW K 7):=sP T 7
inductive iG(K:W.Frag)(D:Nat)(vs:List V)(H:Hp)(Q:VK)(E_:XK):Prop where
 |mk (R:List (List Nat)) (ps:List Nat) (T:PT) (v0:V) (e:Nat):(vs=[v0])->(e<D)->(eU GJ H e v0 T)->(AG R e ps T)->(ps.Pairwise (· < ·))->(ps.length<=20)->(∀(l:Addr) H',H l=none->H' l=some (.lst (ps.map nV))->aG H H'->Q (.ref l) H')->iG K D vs H Q E_
theorem uU:∀d:Nat,bu P w K mg base eH (0+1*d) (aM 51) (aR 51) ["_law_tree"] (iG K d):=by
 intro d
 induction d with
 |zero=>exact⟨λvs H Q E h=>by exfalso;obtain⟨R,ps,T,v0,e,rfl,hd,_⟩:=h;omega,λA outer s H args us vs Q E _ _ _ _ h=>by exfalso;obtain⟨R,ps,T,v0,e,rfl,hd,_⟩:=h;omega⟩
 |succ d ih =>
  have mQ:=ih
  show bu P w K mg base eH (0+1*d+1) (aM 51) (aR 51) ["_law_tree"] (iG K (d+1))
  refine T.mG.ok iE 'g' 'a'
  ·obtain⟨R,ps,T,v0,e,rfl,_⟩:=h;rfl
  ·have Fc:=hr
   have hr:dM 0 _:=hr.mono 'b'
   obtain⟨R,ps,U,v0,e,rfl,hD,tr,ok,Ra,hpl,k⟩:=h
   refine⟨_,(aq (aO (cC aU (jK K (pv 0) au) az) (ay (aC (EG (cy K rfl) T.fh (af (jK K (pv 0) au) ak)))) aD)
   (aq (dj 1 iE.nd (aW ak))
   (aq (gc abZ rfl (bL K rfl (jK K (pv 0) au)) (e7 2 iE.nd)
   (ay (dj 1 iE.nd (aF ef (pv 1) (dR mQ Fc T.sf T.mG.kp T.se (af (pv 2) ak) (hkk:=abh _))))))
   (ay (aC (gv (Bh K rfl) T.Ik (af (pv 1) ak))))))),?_⟩
   cases U with
   |leaf qs =>
    obtain⟨rfl,hal⟩:=ok.leaf
    have tr:∃t l,v0=.ref t/\GJ t=none/\GJ l=none/\H t=some (.tup [.str 'd',.ref l])/\H l=some (.lst (qs.map nV)):=by cases e<;>exact tr
    obtain⟨t,l,rfl,_,_,ht,hl⟩:=tr
    have pF:fu [V.str 'd',V.ref l] 0=some (.str 'd'):=rfl
    have D9:fu [V.str 'd',V.ref l] 1=some (.ref l):=rfl
    refine⟨_,O,_,_,_,_,O,O,bD.of ht,O,O,_,O,xB rfl (⟨_,O,_,_,_,_,O,O,bD.of ht,O,_,_,O,.inl (aN.of hl),λz1=>?_⟩)⟩
    intro hz1
    exact k z1 _ hz1 ai (ah hz1)
   |ask i bs =>
    cases e with
    |zero=>exact tr.elim
    |succ e =>
    obtain⟨t,l,es,rfl,_,_,ht,hl,pa⟩:=tr
    obtain⟨hi,MO,hbn,hok⟩:=ok
    have pF:fu [V.str 'e',V.int (i:Int),V.ref l] 0=some (.str 'e'):=rfl
    have at2:fu [V.str 'e',V.int (i:Int),V.ref l] 2=some (.ref l):=rfl
    have n4:¬(V.str 'e'=V.str 'd'):=by decide +kernel
    refine⟨_,O,_,_,_,_,O,O,bD.of ht,O,O,_,O,jk n4 (⟨'c',λF hF=>⟨_,O,_,_,_,_,O,O,bD.of (ah hF _ _ ht),O,_,O,⟨_,aN.of (ah hF _ _ hl)⟩,?_⟩⟩)⟩
    have pl:=pa.length
    have Qg:=iw (r:=R.getD i []) (ps:=ps)
    have pp:=yj (r:=R.getD i []) (ps:=ps)
    have pa3:=uv (r:=R.getD i []) Ra
    have Oc:∀q∈aE (R.getD i []) ps,q.length<=ps.length:=λq hq=>jQ hq
    generalize aE (R.getD i []) ps=qs at MO hok Qg pp pa3 Oc
    refine ny (K:=K) (a:=l) (xs:=es) (λj σ J=>∃(fa:Addr)(v:Option V),σ=[some (.ref t),some (.ref fa),v]/\J fa=some (.lst ((qs.take j).flatten.map nV))/\(qs.take j).flatten.length<=20*j/\aG H J) ⟨F,_,rfl,ai,by simp,ah hF⟩ (λj σ J _ q=>by obtain⟨_,_,_,_,_,sJ⟩:=q;exact aN.of (sJ _ _ hl)) ?_ ?_
    ·rintro j e1 σ J hj ⟨fa,v,rfl,Rb,hlen,sJ⟩
     obtain⟨b,hb,tb⟩:=aI pa j e1 hj
     have hjl:=(abd.mp hb).1
     obtain⟨q,hq⟩:∃q,qs[j]?=some q:=⟨_,abk 'b'⟩
     have xG:=abi hq
     have ql:=Oc q xG
     dsimp only[bQ]
     refine⟨_,O,_,O,R,q,b,e1,e,O,by omega,eU.mono sJ tb,hok j q b hq hb,pa3 q xG,by omega,λl2 J2 GS hl2 s2=>?_⟩
     refine⟨fa,l2,_,_,O,O,s2 _ _ Rb,hl2,?_,λm hm=>?_⟩
     ·rw[aa9,aa9];exact abv (show _<=1000 by omega) 'c'
     ·refine⟨m,_,O,?_,?_,sJ.trans (s2.trans (ah hm))⟩
      ·rw[ai,bw hq,List.flatten_append,abw]
       simp
      ·rw[bw hq,List.flatten_append,abq,show [q].flatten=q from by simp]
       omega
    rintro σ J ⟨fa,v,rfl,Rb,hlen,sJ⟩
    rw[aby 'b']at Rb
    have hz:=pp.length_eq
    refine⟨_,O,fa,qs.flatten.map (λ(p:Nat)=>(p:Int)),O,aN.of (by rw[List.map_map];exact Rb),by rw[aa9];omega,λns h1 h2 m hm=>?_⟩
    have e:=Pp h1 h2 pp Ra
    exact k m _ (sJ.free hm) (by rw[ai,e,List.map_map];rfl) (sJ.trans (ah hm))
theorem Aa:zzz T eH 9 51 ["_law_tree"] (iG K 9):=uU T 9
inductive fj(K:W.Frag)(D:Nat)(vs:List V)(H:Hp)(Q:VK)(E_:XK):Prop where
 |mk (A0:Hp) (R:List (List Nat)) (ps:List Nat) (T:PT) (v0:V) (c:Int) (deep:Nat) (la:Addr) (fX:List V) (cs:List iK) (zs:List Str) (A:Hp):(Jb A0 H)->(vs=[.ref la,.int (zs.length:Int),v0,.int c,.int (deep:Int)])->(1<=D)->(D<=8)->(R=gi cs zs)->(H la=some (.lst fX))->(nh A H zs fX cs)->(cs.length<=100)->(zs.length<=100)->(1<=zs.length)->(zs.length<=20)->((∀p∈ps,p<cs.length))->(eU A0 H (D-1) v0 T)->(AG R (D-1) ps T)->(ps≠[])->(ps.Pairwise (· < ·))->(ps.length<=20)->(0<=c)->(c<=2000000000)->(deep+D<=100)->(∀(a:Addr) v b t H',H' a=some (.tup [v,.bl b])->RT (br A0 H') (2*D+2) v t->(∀m,D<m->bK R m ps t=b)->aG H H'->Q (.ref a) H')->fj K D vs H Q E_
theorem oG:∀d:Nat,bu P w K mg base eH (9+1*d) (aM 52) (aR 52) ["_law_answers","_law_many","_law_tree","_law_cell","_law_deep_here"] (fj K d):=by
 intro d
 induction d with
 |zero=>exact⟨λvs H Q E h=>by exfalso;obtain⟨A0,R,ps,T,v0,c,deep,la,fX,cs,zs,B,_,rfl,hd,_⟩:=h;omega,λA outer s H args us vs Q E _ _ _ _ h=>by exfalso;obtain⟨A0,R,ps,T,v0,c,deep,la,fX,cs,zs,B,_,rfl,hd,_⟩:=h;omega⟩
 |succ d ih =>
  have iA:=ih
  show bu P w K mg base eH (9+1*d+1) (aM 52) (aR 52) ["_law_answers","_law_many","_law_tree","_law_cell","_law_deep_here"] (fj K (d+1))
  have bN:=f9 T
  have gU:=qd T
  have mQ:=Aa T
  refine T.iz.ok bz 'g' 'a'
  ·obtain⟨A0,R,ps,T,v0,c,deep,la,fX,cs,zs,A,_,rfl,_⟩:=h;rfl
  ·have Fc:=hr
   have hr:dM 9 _:=hr.mono 'b'
   have gg:=hr.aV
   obtain⟨A0,R,ps,U,v0,c,deep,la,fX,cs,zs,A,lv,rfl,hD,hD8,rfl,hla,HU,hcl,Nc,hz1,hz2,hlt,tr,ok,Ea,Ra,hpl,c0,c1,hdp,k⟩:=h
   have tr:eU A0 H d v0 U:=tr
   have ok:AG (gi cs zs) d ps U:=ok
   have uQ:=hr.units
   refine⟨_,(aq (dj 5 bz.nd (dR bN hr T.dI T.cN.kp T.dH (af (pv 3) (af (aF bV au (aF fm au (pv 4))) ak))))
   (aq (aO (PW.pt (cI (cC aU (jK K (pv 2) au) az) (cj (cC qR (aF bq (pv 5) au) au)))) (aq (dj 6 bz.nd (aF bq (aF bS (pv 5) au) (gv (aK K rfl) T.bB (af (jK K (pv 2) au) ak))))
   (aq (dj 7 bz.nd (EG (cy K rfl) T.fh (af (jK K (pv 2) au) ak)))
   (aq (dU (dR iA Fc T.lg T.iz.kp T.k9 (af (pv 0) (af (pv 1) (af (fM K (pv 7) (pv 6)) (af (pv 3) (af (aF bV (pv 4) au) ak))))) (hkk:=abh _)) (eZ K rfl 2 rfl (aS (e7 8 bz.nd) (aS (e7 9 bz.nd) eY))))
   (aq (dU (pv 8) (lH (pv 7) (pv 6) set_list))
   (ay (aC (aB (af (aB (af az (af (jK K (pv 2) au) (af (pv 7) ak)))) (af (pv 9) ak))))))))) aD)
   (aq (dj 10 bz.nd (dR mQ hr T.sf T.mG.kp T.se (af (pv 2) ak)))
   (aq (aO (cC aU (aF bq (aF bS (pv 5) au) au) au) (aq (xA (i:=11) rfl bz.nd rfl rfl (show aX ["_law_answers","_law_many","_law_tree","_law_cell","_law_deep_here","_law_x","_law_at","_law_branches","_law_branch","_law_right","_law_places","_law_unlike","_law_parts_here"] (aA dW) ["_law_place","_law_answers","_law_places"] 1 [0,10] _ from zp) (bL K rfl (pv 10)) (λ_ _ _ _=>(e7 0 (show(["_law_place","_law_answers","_law_places"]:List Str).Nodup by decide +kernel))) (λ_ _ _ _=>(qT (cC (Km K rfl uQ) (fM K (pv 1) (pv 0)) (fM K (pv 1) (fM K (pv 2) au))))) (λ_ _ _ _=>(pv 0)))
   (ay (aC (aB (af (aB (af az (af (pv 10) ak))) (af (AD (ua K rfl gg) (pv 11) (aW ak)) ak)))))) aD)
   (aq (dj 6 bz.nd (aF bq (aF bS (pv 5) au) (pv 1)))
   (aq (dj 12 bz.nd (dR gU hr T.jc T.gT.kp T.jb (af (pv 0) (af (pv 6) (af (pv 10) ak)))))
   (aq (aO (cC aU (aF bq (aF bS (pv 5) au) au) au) (ay (aC (aB (af (aB (af az (af (pv 6) (af (aW (af (pv 2) ak)) ak)))) (af (AD aU (gv (aK K rfl) T.bB (af (pv 12) ak)) au) ak))))) aD)
   (ay (aC (aB (af (aB (af az (af (pv 6) (af (di rfl (show aX ["_law_answers","_law_many","_law_tree","_law_cell","_law_deep_here","_law_x","_law_at","_law_branches","_law_branch","_law_right","_law_places","_law_unlike","_law_parts_here"] (aA dW) ["_law_place"] 1 [] _ from zp) (bL K rfl (pv 10)) (λ_ _ _ _=>(e7 0 QW)) (λ_ _ _ _=>dh) (λ_ _ _ _=>(aB (af az (af (aW (af (pv 0) ak)) ak))))) ak)))) (af (AD aU (gv (aK K rfl) T.bB (af (pv 12) ak)) (gv (aK K rfl) T.bB (af (pv 10) ak))) ak)))))))))))),?_⟩
   refine⟨_,O,_,O,_,_,O,O,.inl ⟨'b','b'⟩,_,_,O,O,_,_,O,'b','b','b','b',?_⟩
   intro x x0 x1
   dsimp only[bQ]
   have vL:∃a es w ws,v0=.ref a/\H a=some (.tup (.str w::ws))/\fu (V.str w::ws) 0=some (.str w)/\es=(V.str w::ws)/\(V.str w=V.str 'e'->∃i bs,U=.ask i bs):=by
    cases U with
    |leaf qs =>
     have tr:∃t l,v0=.ref t/\A0 t=none/\A0 l=none/\H t=some (.tup [.str 'd',.ref l])/\H l=some (.lst (qs.map nV)):=by cases d<;>exact tr
     obtain⟨t,l,rfl,_,_,ht,hl⟩:=tr
     exact⟨t,_,_,_,O,ht,O,O,λe=>absurd e (by decide +kernel)⟩
    |ask i bs =>
     cases d with
     |zero=>exact tr.elim
     |succ d =>
     obtain⟨t,l,es,rfl,_,al,ht,hl,pa⟩:=tr
     exact⟨t,_,_,_,O,ht,O,O,λ_=>⟨i,bs,O⟩⟩
   obtain⟨ta,es0,w0,ws0,rfl,hta,UJ,rfl,Oi⟩:=vL
   refine cR (t:=qQ _ _ _) (λσ' G=>σ'=[some (.ref la),some (.int (zs.length:Int)),some (.ref ta),some (.int c),some (.int (deep:Int)),some (.int x),none,none,none,none,none,none,none]/\G=H) ?_ (λgo=>?_)
   ·rintro σ' H' ⟨rfl,rfl⟩
    refine⟨_,O,gi cs zs,ps,U,_,d,O,by omega,eU.e0 tr,ok,Ra,hpl,λlp G aac qI sG=>?_⟩
    dsimp only[bQ]
    have zW:=sG _ _ hla
    have Ff:=nh.mono sG HU
    have hal:=HU.length
    have Ce:(ps.map nV).length=ps.length:=aa9 _
    obtain⟨p0,ps',Qo⟩:∃p0 ps',ps=p0::ps':=by
     cases ps with
     |nil=>exact absurd rfl Ea
     |cons a l=>exact⟨a,l,rfl⟩
    have Zr:=hlt p0 (by rw[Qo];exact abl ..)
    obtain⟨w2,Kc⟩:∃w2,fX[p0]?=some w2:=⟨_,abk 'b'⟩
    obtain⟨x2,Gi,VB⟩:=aI Ff _ _ Kc
    have at2:fu fX (p0:Int)=some w2:=bh Kc
    have pF:fu (ps.map nV) 0=some (nV p0):=by rw[Qo];exact(show fu _ ((0:Nat):Int)=_ from bh rfl)
    refine cR (t:=qQ _ _ _) (λσ' G'=>σ'=[some (.ref la),some (.int (zs.length:Int)),some (.ref ta),some (.int c),some (.int (deep:Int)),some (.int x),none,none,none,none,some (.ref lp),none,none]/\G'=G) ?_ (λgo=>?_)
    ·rintro σ' G' ⟨rfl,rfl⟩
     have i0:=abN (x / 27) (show(zs.length:Int)≠0 by omega)
     have i1':=abL (x / 27) (show(0:Int)<(zs.length:Int) by omega)
     obtain⟨i1,e1⟩:=acf i0
     have hi1:i1<zs.length:=by omega
     refine⟨_,O,_,_,O,O,⟨'b','b'⟩,_,O,_,_,O,O,'b',_,O,_,O,_,O,?_⟩
     rw[show((λi j=>V.int (i % j)) (x / 27) (zs.length:Int))=V.int (i1:Int) from congrArg V.int e1]
     refine⟨la,lp,i1,fX,cs,zs,A,ps,O,zW,Ff,hcl,Nc,hi1,qI,hlt,by omega,λl1 es1 H1 Zq hl1 LD s1=>?_⟩
     dsimp only[bQ]
     refine⟨_,O,_,_,O,O,⟨'b','b'⟩,_,_,O,O,'b',O,_,O,?_⟩
     have UK:es1.length=(aE ((gi cs zs).getD i1 []) ps).length:=LD.length
     have UL:i1<(gi cs zs).length:=by unfold gi;rw[aa9];exact hi1
     have UM:aG _ H1:=sG.trans s1
     refine OZ (λc6=>?_) (λc6=>?_)
     ·refine⟨_,O,_,O,(by show(1:Nat)<=sizeLine;decide),λq1 hq1=>⟨'h',λq2 hq2=>⟨_,O,_,_,O,.inl (aN.of (ah hq2 _ _ (ah hq1 _ _ hl1))),O,(by show(2:Nat)<=sizeLine;decide),λq3 Rc=>?_⟩⟩⟩
      (have u1:=ah (o:=HO.lst [V.ref ta]) hq1;have g1:=ai (H:=H1) (a:=q1) (o:=HO.lst [V.ref ta]);generalize upd H1 q1 (HO.lst [V.ref ta])=G1 at u1 g1 hq2 Rc⊢;have u2:=ah (o:=HO.tup [V.str 'e',V.int ↑i1,V.ref q1]) hq2;have g2:=ai (H:=G1) (a:=q2) (o:=HO.tup [V.str 'e',V.int ↑i1,V.ref q1]);generalize upd G1 q2 (HO.tup [V.str 'e',V.int ↑i1,V.ref q1])=G2 at u2 g2 Rc⊢;have u3:=ah (o:=HO.tup [V.ref q2,V.bl (decide (V.int ↑es1.length=V.int 1))]) Rc;have g3:=ai (H:=G2) (a:=q3) (o:=HO.tup [V.ref q2,V.bl (decide (V.int ↑es1.length=V.int 1))]);generalize upd G2 q3 (HO.tup [V.ref q2,V.bl (decide (V.int ↑es1.length=V.int 1))])=G3 at u3 g3⊢)
      have u12:=u1.trans (u2.trans u3)
      have Rf:Jb A0 H1:=lv.mono UM
      refine k q3 (.ref q2) _ (.tup [.at (.str 'e'),.at (.int (i1:Int)),.lst [kK d U]]) _ g3 ?_ (λm hm=>?_) (UM.trans u12)
      ·exact k6 (n:=2*(d+1)+1) (hid (Rf.mono u1 _ hq2) (u3 _ _ g2)) (aY rfl) (aY rfl) ⟨q1,_,rfl,hid (Rf _ hq1) ((u2.trans u3) _ _ g1),.cons ((eU.rt (eU.hid tr)).mono (aJ (UM.trans u12))) .nil⟩
      ·obtain⟨m,rfl⟩:∃k,m=k+1:=⟨m-1,by omega⟩
       rw[iB,cH,abR]
       exact KQ UL Ra (kZ ok 'b') UK
     ·have Lo:=s1 _ _ qI
      refine⟨_,O,_,O,lp,O,⟨_,aN.of Lo⟩,λDD hDD=>?_⟩
      have Rf:Jb A0 H1:=lv.mono UM
      refine bZ (K:=K) (a:=lp) (xs:=ps.map nV) (λj ys τ J=>(∃v,τ=[v])/\aG H1 J/\J DD=some (.lst ys)/\Paired (RT (br (upd A0 DD (.lst [])) J) 2) ys ((ps.take j).map λp=>uo [p])) ⟨⟨_,rfl⟩,ah hDD,ai,.nil⟩ (λj ys τ J _ q=>⟨aN.of (q.2.1 _ _ Lo),q.2.2.1⟩) ?_ ?_
      ·rintro j e1 ys τ J hj ⟨⟨v,rfl⟩,sJ,hJ,py⟩
       obtain⟨p,hp,rfl⟩:=lZ hj
       have hjl:=(abd.mp hp).1
       have hyl:=py.length
       rw[aa9,abJ]at hyl
       refine o7 ?_
       have lv2:Jb (upd A0 DD (.lst [])) J:=λb hb=>by
        rw[aH (λe=>by rw[e,hJ]at hb;cases hb)]
        exact Rf b (sJ.free hb)
       refine⟨_,O,(by show(1:Nat)<=sizeLine;decide),λq1 hq1=>⟨(by show(2:Nat)<=sizeLine;decide),λq2 hq2=>⟨(ah hq2 _ _ (ah hq1 _ _ hJ)),?_,⟨_,O⟩,(aL hDD (aL ((aL (sJ.free hq1) sJ).free hq2) (aL (sJ.free hq1) sJ))),ai,?_⟩⟩⟩
       ·exact abr (show ys.length<=100 by omega) 'c'
       rw[bw hp,abw]
       have w1:=ah (o:=HO.lst [nV p]) hq1
       have w2:=ah (o:=HO.tup [V.str 'd',V.ref q1]) hq2
       refine cu (aQ (λ_ _ h=>(h.mono (aJ (w1.trans w2))).mono GQ) py) (.cons (RT.mono GQ ?_) .nil)
       exact kM (n:=1) (hid (lv2.mono w1 _ hq2) ai) (aY rfl) (oV (ps:=[p]) (n:=0) (hid (lv2 _ hq1) (w2 _ _ ai)))
      rintro ys τ J ⟨⟨v,rfl⟩,sJ,hJ,py⟩
      rw[Ce,aby (abh _)]at py
      refine⟨'h',λq2 hq2=>⟨_,O,_,_,O,.inl (aN.of (ah hq2 _ _ (sJ _ _ hl1))),_,O,_,_,O,.inl (aN.of (ah hq2 _ _ (sJ _ _ Lo))),O,(by show(2:Nat)<=sizeLine;decide),λq3 Rc=>?_⟩⟩
      (have u2:=ah (o:=HO.tup [V.str 'e',V.int ↑i1,V.ref DD]) hq2;have g2:=ai (H:=J) (a:=q2) (o:=HO.tup [V.str 'e',V.int ↑i1,V.ref DD]);generalize upd J q2 (HO.tup [V.str 'e',V.int ↑i1,V.ref DD])=G2 at u2 g2 Rc⊢;have u3:=ah (o:=HO.tup [V.ref q2,V.bl (decide (V.int ↑es1.length=V.int ↑(List.map nV ps).length))]) Rc;have g3:=ai (H:=G2) (a:=q3) (o:=HO.tup [V.ref q2,V.bl (decide (V.int ↑es1.length=V.int ↑(List.map nV ps).length))]);generalize upd G2 q3 (HO.tup [V.ref q2,V.bl (decide (V.int ↑es1.length=V.int ↑(List.map nV ps).length))])=G3 at u3 g3⊢)
      have LJ:=u2.trans u3
      have Q7:Jb A0 J:=Rf.mono sJ
      have sF:=UM.trans (sJ.trans LJ)
      have hs:=Bw (A:=A0) (o:=HO.lst []) (Ib hJ LJ)
      refine k q3 (.ref q2) _ (.tup [.at (.str 'e'),.at (.int (i1:Int)),.lst (ps.map λp=>uo [p])]) _ g3 ?_ (λm hm=>?_) sF
      ·exact k6 (n:=2*(d+1)+1) (hid (Q7 _ hq2) (u3 _ _ g2)) (aY rfl) (aY rfl) ⟨DD,_,rfl,hid (Rf _ hDD) (LJ _ _ hJ),aQ (λ_ _ h=>(h.mono hs).up 'b') py⟩
      ·obtain⟨m,rfl⟩:∃k,m=k+1:=⟨m-1,by omega⟩
       rw[iB,cH,abR]
       obtain⟨m,rfl⟩:∃k,m=k+1:=⟨m-1,by omega⟩
       exact EV UL Ea UK Ce
    refine⟨_,O,_,_,O,O,⟨'b','b'⟩,_,_,O,O,'b',O,_,O,?_⟩
    refine NT (λc9=>?_) (λc9=>?_)
    rotate_left
    ·exact go _ _ ⟨rfl,rfl⟩
    clear go
    refine⟨_,O,lp,O,⟨_,aN.of qI⟩,λD hD=>?_⟩
    refine bZ (K:=K) (a:=lp) (xs:=ps.map nV) (λj ys τ J=>(∃v,τ=[v,some (.ref la),some (.ref lp)])/\aG G J/\J D=some (.lst ys)/\ys.length<=j/\ys.isEmpty=(ps.take j).all λp=>(gi cs zs).all λr=>decide (r.getD p 0=r.getD p0 0)) ⟨⟨_,rfl⟩,ah hD,ai,abh _,rfl⟩ (λj ys τ J _ q=>⟨aN.of (q.2.1 _ _ qI),q.2.2.1⟩) ?_ ?_
    ·rintro j e1 ys τ J hj ⟨⟨v,rfl⟩,sJ,hJ,hyl,LH⟩
     obtain⟨p,hp,rfl⟩:=lZ hj
     have hjl:=(abd.mp hp).1
     have hpc:=hlt p (abi hp)
     obtain⟨w1,hw1⟩:∃w1,fX[p]?=some w1:=⟨_,abk 'b'⟩
     obtain⟨x1,MK,Zs⟩:=aI Ff _ _ hw1
     have D9:fu fX (p:Int)=some w1:=bh hw1
     have top:=GG (K:=K) (yg.mono sJ Zs) (yg.mono sJ VB)
     rw[GN MK Gi]at top
     refine⟨_,O,_,O,la,_,_,_,O,O,aN.of (sJ _ _ zW),D9,_,O,_,O,lp,_,_,_,O,O,aN.of (sJ _ _ qI),pF,la,_,_,_,O,O,aN.of (sJ _ _ zW),at2,_,top,_,O,?_⟩
     rw[bw hp,List.all_append,acO,List.all_nil,Bool.and_true,←LH]
     cases hc5:(gi cs zs).all λr=>decide (r.getD p 0=r.getD p0 0) with
     |true=>exact bE ⟨⟨_,rfl⟩,sJ,hJ,by omega,by rw[Bool.and_true]⟩
     |false =>
      refine fD ⟨_,rfl,hJ,abr (show ys.length<=100 by omega) 'c',⟨_,rfl⟩,aL hD sJ,ai,by rw[abq];show ys.length+1<=_;omega,?_⟩
      rw[ab6]
      cases ys<;>rfl
    rintro ys τ J ⟨⟨v,rfl⟩,sJ,hJ,_,LH⟩
    rw[Ce,aby (abh _)]at LH
    have Qp:ys.isEmpty=cM (gi cs zs) ps:=by rw[LH,Qo,vF]
    dsimp only[bQ]
    refine⟨_,O,(by show(2:Nat)<=sizeLine;decide),λt2 GU=>⟨_,O,'c',λX5 pG=>⟨_,_,_,O,O,aN.of (ah pG _ _ (ah GU _ _ hJ)),aN.of ai,(by show(2:Nat)<=sizeLine;decide),λt3 Jc=>?_⟩⟩⟩
    (have u1:=ah (o:=HO.tup [V.str 'd',V.ref lp]) GU;have g1:=ai (H:=J) (a:=t2) (o:=HO.tup [V.str 'd',V.ref lp]);generalize upd J t2 (HO.tup [V.str 'd',V.ref lp])=G1 at u1 g1 pG Jc⊢;have u2:=ah (o:=HO.lst []) pG;have g2:=ai (H:=G1) (a:=X5) (o:=HO.lst []);generalize upd G1 X5 (HO.lst [])=G2 at u2 g2 Jc⊢;have u3:=ah (o:=HO.tup [V.ref t2,V.bl ys.isEmpty]) Jc;have g3:=ai (H:=G2) (a:=t3) (o:=HO.tup [V.ref t2,V.bl ys.isEmpty]);generalize upd G2 t3 (HO.tup [V.ref t2,V.bl ys.isEmpty])=G3 at u3 g3⊢)
    have sF:=sJ.trans (u1.trans (u2.trans u3))
    have lpF:=sF _ _ qI
    have sHF:=sG.trans sF
    have Q7:Jb A0 J:=(lv.mono sG).mono sJ
    refine k t3 (.ref t2) _ (.tup [.at (.str 'd'),.lst (CF ps)]) _ g3 ?_ (λm hm=>?_) sHF
    ·exact kM (n:=2*(d+1)+1) (hid (Q7 _ GU) ((u2.trans u3) _ _ g1)) (aY rfl) (oV (n:=2*d+2) (hid (lv _ aac) lpF))
    ·obtain⟨m,rfl⟩:∃k,m=k+1:=⟨m-1,by omega⟩
     rw[oS,cH,abR,MP,abR]
     exact Qp.symm
   by_cases hc:V.str w0=V.str 'e'
   ·have e0:w0='e':=by injection hc
    subst e0
    obtain⟨i,bs,rfl⟩:=Oi rfl
    cases d with
    |zero=>exact tr.elim
    |succ d =>
    obtain⟨t,l,es,et,tl,al,ht,hl,pa⟩:=tr
    cases et
    obtain⟨hi,MO,hbn,hok⟩:=ok
    have pF:fu [V.str 'e',V.int (i:Int),V.ref l] 0=some (.str 'e'):=rfl
    have D9:fu [V.str 'e',V.int (i:Int),V.ref l] 1=some (.int (i:Int)):=rfl
    have at2:fu [V.str 'e',V.int (i:Int),V.ref l] 2=some (.ref l):=rfl
    refine⟨_,O,_,_,_,_,O,O,bD.of ht,O,O,_,O,xB rfl (⟨_,O,_,_,O,O,'b',_,_,O,O,_,O,?_⟩)⟩
    refine NT (λc6=>?_) (λc6=>?_)
    rotate_left
    ·exact go _ _ ⟨rfl,rfl⟩
    clear go Oi UJ
    have pl:=pa.length
    have Qg:=iw (r:=(gi cs zs).getD i []) (ps:=ps)
    have hbp:=abX.mpr hbn
    refine⟨_,O,_,_,O,O,⟨'b','b'⟩,_,O,_,_,_,_,O,O,bD.of ht,O,_,_,O,.inl (aN.of hl),_,_,O,O,'b',_,O,_,_,_,_,O,O,bD.of ht,O,_,_,O,.inl (aN.of hl),λy1=>?_⟩
    intro hy1
    have j0:=abN (x / 3) (show(es.length:Int)≠0 by omega)
    have j1:=abL (x / 3) (show(0:Int)<(es.length:Int) by omega)
    obtain⟨j,hj⟩:=acf j0
    have hjl:j<es.length:=by omega
    obtain⟨w1,hw1⟩:∃w1,es[j]?=some w1:=⟨_,abk hjl⟩
    obtain⟨b,hb,tb⟩:=aI pa j w1 hw1
    obtain⟨q,hq⟩:∃q,(aE ((gi cs zs).getD i []) ps)[j]?=some q:=⟨_,abk 'b'⟩
    have okb:=hok j q b hq hb
    have xG:=abi hq
    have aj:fu es (j:Int)=some w1:=bh hw1
    have sY:=ah (o:=HO.lst es) hy1
    have gY:=ai (H:=H) (a:=y1) (o:=HO.lst es)
    generalize upd H y1 (HO.lst es)=G at sY gY⊢
    dsimp only[bQ]
    rw[hj]
    refine⟨_,O,_,O,_,O,_,O,y1,es,_,w1,O,O,aN.of gY,aj,_,O,_,O,_,_,O,O,?_⟩
    refine⟨upd A0 y1 (.lst es),_,q,b,w1,c,deep+1,la,fX,cs,zs,A,λz hz=>?_,O,by omega,by omega,O,sY _ _ hla,nh.mono sY HU,hcl,Nc,hz1,hz2,λp hp=>hlt p ((cD q xG).2 p hp),eU.mono sY (eU.more hy1 tb),okb,(cD q xG).1,uv Ra q xG,abv (jQ xG) hpl,c0,c1,by omega,λa v bb x5 H' ha rx hx s=>?_⟩
    ·rw[aH (λe=>by rw[e,gY]at hz;cases hz)]
     exact lv _ (sY.free hz)
    refine⟨_,_,O,bD.of ha,O,_,_,O,_,_,O,O,?_⟩
    refine⟨_,O,_,O,_,O,y1,es,_,j,O,O,s _ _ gY,AK hjl,?_⟩
    have s2:aG H (upd H' y1 (.lst (es.set j v))):=aL hy1 (sY.trans s)
    have g2:=ai (H:=H') (a:=y1) (o:=HO.lst (es.set j v))
    have s3:∀{G3:Hp},aG (upd H' y1 (.lst (es.set j v))) G3->aG (br (upd A0 y1 (.lst es)) H') (br A0 G3):=λz=>Bw z
    generalize upd H' y1 (.lst (es.set j v))=G2 at s2 g2 s3⊢
    have GU:=s2 _ _ ht
    refine⟨_,O,_,_,_,_,O,O,bD.of GU,O,_,O,'h',λt2 Jc=>⟨_,O,(by show(2:Nat)<=sizeLine;decide),λt3 ht4=>?_⟩⟩
    have s4:=ah (o:=HO.tup [.str 'e',.int (i:Int),.ref y1]) Jc
    have g4:=ai (H:=G2) (a:=t2) (o:=HO.tup [.str 'e',.int (i:Int),.ref y1])
    generalize upd G2 t2 (.tup [.str 'e',.int (i:Int),.ref y1])=G4 at s4 g4 ht4⊢
    have s5:=ah (o:=HO.tup [.ref t2,.bl bb]) ht4
    have g5:=ai (H:=G4) (a:=t3) (o:=HO.tup [.ref t2,.bl bb])
    generalize upd G4 t3 (.tup [.ref t2,.bl bb])=G5 at s5 g5⊢
    have s6:=s4.trans s5
    have pa2:Paired (eU GJ (br A0 G5) d) es bs:=aQ (λ_ _ h=>eU.e0 (eU.mono (aJ (s2.trans s6)) (eU.hid h))) pa
    obtain⟨X5,rX,eX⟩:=KP (j:=j) (hid (lv _ (s2.free Jc)) (s5 _ _ g4)) (hid (lv _ hy1) (s6 _ _ g2)) pa2 hi MO hok hq 'b' 'b' (rx.mono (s3 s6)) hx
    exact k t3 _ bb X5 _ g5 (rX.up 'b') (λm hm=>eX m 'b') (s2.trans s6)
   ·refine⟨_,O,_,_,_,_,O,O,bD.of hta,UJ,O,_,O,jk hc (bE ?_)⟩
    exact go _ _ ⟨rfl,rfl⟩
theorem sR:zzz T eH 16 52 ["_law_answers","_law_many","_law_tree","_law_cell","_law_deep_here"] (fj K 7):=oG T 7
inductive yQ(K:W.Frag)(vs:List V)(H:Hp)(Q:VK)(E_:XK):Prop where
 |mk (a:Addr) (ns:List Int):(vs=[.ref a])->(aN K H a (ns.map V.int))->(ns.length<=63)->(∀H',Q (.bl true) H')->yQ K vs H Q E_
theorem Qv:zzz T eH 22 53 ["_law_script"] (yQ K):=by
 have Ab:=yM T
 have cY:=m8 T
 have oF:=Cf T
 have mO:=zY T
 have iA:=sR T
 have kT:=yP T
 have D3:=Cd T
 have Ck:=zU T
 have qK:=DS T
 have mJ:=pV T
 have sS:=Le T
 refine T.Sk.ok iy 'g' 'a'
 ·obtain⟨a,ns,rfl,_⟩:=h;rfl
 ·have hu:=bx hr
  obtain⟨a,ns,rfl,hS,hlen,k⟩:=h
  have uQ:=hr.units
  refine'⟨_,?aa,?bb⟩
  case aa =>
   refine' aq ?s0 ?r0
   case s0 =>
    exact(dj 1 iy.nd (dR Ck hr T.BO T.rV.kp T.BN (af (cG (dD K rfl) (pv 0) (cJ au) (cJ au)) (af (aF bV au (aF bq (dR cY hr T.dY T.cX.kp T.dX (af (pv 0) (af au ak))) au)) ak))))
   case r0 =>
    refine' aq ?s1 ?r1
    case s1 =>
     exact(dj 2 iy.nd (aF bV au (aF bq (aF bS (dR cY hr T.dY T.cX.kp T.dX (af (pv 0) (af au ak))) au) au)))
    case r1 =>
     refine' aq ?s2 ?r2
     case s2 =>
      exact(dj 3 iy.nd (di rfl (show aX ["_law_script","_law_tolds_here","_law_many","_law_texts","_law_answers","_law_lent","_law_cell","_law_tree","_law_wrong","_law_other","_law_right","_law_found","_law_deep_here"] (aA nJ) ["_law_k","_law_tolds_here","_law_script"] 1 [1,0] _ from zp) (fN rfl T.fH (af (pv 2) ak)) (λ_ _ _ _=>(e7 0 (show(["_law_k","_law_tolds_here","_law_script"]:List Str).Nodup by decide +kernel))) (λ_ _ _ _=>dh) (λ_ _ _ _=>(dR D3 hr T.DO T.vK.kp T.DN (af (aF bV (dR cY hr T.dY T.cX.kp T.dX (af (pv 2) (af (aF bV au (pv 0)) ak))) (aF fm au (pv 0))) (af (pv 1) (af au ak)))))))
     case r2 =>
      refine' aq ?s3 ?r3
      case s3 =>
       exact(Kq (i:=4) rfl iy.nd rfl rfl (show jm ["_law_script","_law_tolds_here","_law_many","_law_texts","_law_answers","_law_lent","_law_cell","_law_tree","_law_wrong","_law_other","_law_right","_law_found","_law_deep_here"] (aA nJ) ["_law_told_here","_law_texts"] 1 [3] _ from WU) (bL K rfl (pv 1)) (λ_ _ _ _=>(e7 0 (show(["_law_told_here","_law_texts"]:List Str).Nodup by decide +kernel))) (λ_ _ _ _=>dh) (λ_ _ _ _=>(di rfl (show aX ["_law_told_here","_law_texts"] _ ["_law_text_here","_law_told_here"] 1 [0] _ from⟨rfl,by decide +kernel,by decide +kernel,λy hy hf=>O7 ((by decide +kernel:∀y∈_,y.2=PySem.NameKind.free->(List.lookup y.1 _=some PySem.NameKind.cell\/List.lookup y.1 _=some PySem.NameKind.free)) y hy hf),by decide +kernel,rfl,rfl,by decide +kernel⟩) (bL K rfl (pv 1)) (λ_ _ _ _=>(e7 0 (show(["_law_text_here","_law_told_here"]:List Str).Nodup by decide +kernel))) (λ_ _ _ _=>dh) (λ_ _ _ _=>(dR Ab hr T.zH T.pR.kp T.zG (af (pv 1) (af (pv 0) ak)))))))
      case r3 =>
       refine' aq ?s4 ?r4
       case s4 =>
        refine' dj 5 iy.nd ?v5
        case v5 =>
         refine' aW ?a6
         case a6 =>
          refine' af ?x7 ?y7 ?z7
          case z7=>exact rfl
          case x7 =>
           exact(di rfl (show aX ["_law_script","_law_tolds_here","_law_many","_law_texts","_law_answers","_law_lent","_law_cell","_law_tree","_law_wrong","_law_other","_law_right","_law_found","_law_deep_here"] (aA nJ) ["_law_told_here"] 1 [] _ from zp) (bL K rfl (pv 1)) (λ_ _ _ _=>(e7 0 QW)) (λ_ _ _ _=>dh) (λ_ _ _ _=>(dR mJ hr T.rG T.mD.kp T.rF (af (pv 0) ak))))
          case y7 =>
           refine' af ?x8 ?y8 ?z8
           case z8=>exact rfl
           case x8 =>
            exact(EG (cy K rfl) T.fh (af (pv 3) ak))
           case y8 =>
            exact ak
       case r4 =>
        refine' aq ?s9 ?r9
        case s9 =>
         refine' aO ?Ze ?Ul ?Zf
         case Ze=>exact(cC aU (aF bq (aF bS (dR cY hr T.dY T.cX.kp T.dX (af (pv 0) (af au ak))) au) au) au)
         case Ul =>
          refine' aq ?Tj ?XF
          case Tj =>
           exact(dg (dw K rfl abE abH abI bI (pv 4) (af (fM K (pv 4) au) ak)))
          case XF =>
           refine' ay ?s12
           case s12 =>
            exact(dg (dw K rfl abE abH abI bI (fM K (pv 5) au) (af (fM K (fM K (pv 5) au) au) ak)))
         case Zf =>
          exact aD
        case r9 =>
         refine' aq ?Fd ?r13
         case Fd =>
          exact(gc abZ rfl (bL K rfl (aF ef (aW (af (dR cY hr T.dY T.cX.kp T.dX (af (pv 0) (af au ak))) ak)) (cG (dD K rfl) (pv 0) (cJ au) (cJ au)))) (e7 6 iy.nd)
     (aq (dj 7 iy.nd (dR mO hr T.rY T.mF.kp T.rW (af (pv 4) (af (gv (aK K rfl) T.bB (af (pv 3) ak)) (af (vC rfl rfl T.fh rfl T.fH (af (gv (aK K rfl) T.bB (af (pv 4) ak)) ak)) (af (aF bq (pv 6) au) (af au ak)))))))
     (aq (dj 8 iy.nd (dR kT hr T.pT T.kP.kp T.pS (af (pv 7) (af (gv (aK K rfl) T.bB (af (pv 3) ak)) (af (aF bq (aF bS (pv 6) au) au) (af au ak))))))
     (aq (aO (PW.pt (ia (cC uc (dR sS hr T.rP T.oW.kp T.rO (af (fM K (pv 5) au) (af (fM K (pv 5) au) (af (pv 7) ak)))) iV) (gG (cC uc (dR sS hr T.rP T.oW.kp T.rO (af (fM K (pv 5) au) (af (fM K (pv 5) au) (af (pv 8) ak)))) iV)))) (ay (aC iV)) aD)
     (aq (dU (dR iA hr T.lg T.iz.kp T.k9 (af (pv 4) (af (gv (aK K rfl) T.bB (af (pv 3) ak)) (af (pv 7) (af (aF bq (aF bS (pv 6) au) au) (af au ak)))))) (eZ K rfl 2 rfl (aS (e7 9 iy.nd) (aS (e7 10 iy.nd) eY))))
     (aq (dj 11 iy.nd (dR sS hr T.rP T.oW.kp T.rO (af (fM K (pv 5) au) (af (fM K (pv 5) au) (af (pv 9) ak)))))
     (aq (aO (PW.pt (ia (dm (bT (gv (bW K rfl) T.bH (af (pv 11) (af (I0 "bool" T.xF) ak))))) (gG (cC pH (pv 11) (pv 10))))) (ay (aC iV)) aD)
     (aq (dj 12 iy.nd (dR qK hr T.yy T.qF.kp T.yx (af (pv 7) ak)))
     (aq (aO (PW.pt (ia (bT (gv (bW K rfl) T.bH (af (pv 12) (af (I0 "bool" T.xF) ak)))) (ia (cC pH (pv 12) (dR oF hr T.vN T.nZ.kp T.vM (af (pv 7) ak))) (gG (cC (OS K rfl uQ) (fM K (pv 5) au) (pv 3)))))) (ay (aC iV)) aD)
     (ay (aO (cC uc (dR sS hr T.rP T.oW.kp T.rO (af (fM K (pv 5) au) (af (fM K (pv 5) au) (af (pv 7) ak)))) iV) (ay (aC iV)) aD)))))))))))
         case r13 =>
          refine' ay ?T5
          case T5 =>
           exact(aC (AD OY (dR sS hr T.rP T.oW.kp T.rO (af (fM K (pv 5) au) (af (fM K (pv 5) au) (af gw ak)))) iV))
  refine⟨_,O,_,O,_,O,a,_,O,hS,λp0 hp0=>?_⟩
  obtain⟨n1,en1,ln1,_⟩:=rm V.int ns (some 1) (some 5)
  rw[en1]
  have s0:=ah (o:=HO.lst (n1.map V.int)) hp0
  have g0:=ai (H:=H) (a:=p0) (o:=HO.lst (n1.map V.int))
  generalize upd H p0 (.lst (n1.map V.int))=H0 at s0 g0⊢
  refine⟨_,O,_,_,_,O,s0.seq hS,'b',λc0=>⟨_,_,O,O,'b',_,_,O,O,_,_,_,O,aN.of g0,'b','b','b',?_⟩⟩
  intro Qw ts0 Lp H1 aa8 ht0 tp0 UN hc0 s1
  have hc5:1<=Lp.length/\Lp.length<=5:=by omega
  have t1:=s0.trans s1
  clear s0 s1 g0 hp0
  dsimp only[bQ]
  have hS1:=t1.seq hS
  refine⟨_,O,_,_,_,O,(aG.refl _).seq hS1,'b',λc1=>⟨_,_,O,O,⟨'b','b'⟩,_,_,O,O,'b',_,_,O,O,_,O,_,O,'b','b',?_⟩⟩
  obtain⟨m,hm⟩:=acf (show(0:Int)<=1+c1 / 5 % 4 by omega)
  have m4:1<=m/\m<=4:=by omega
  rw[show((λi j=>V.int (i+j)) 1 (c1 / 5 % 4))=V.int (m:Int) from congrArg V.int hm]
  intro D hD
  refine qq (λi ys τ G=>(∃v,τ=[v,some (.ref Qw),some (.ref a)])/\aG H1 G/\G D=some (.lst ys)/\∃zs:List Str,ys=zs.map V.str/\zs.length=i/\∀z∈zs,gh z/\z.length<=8) ⟨⟨_,rfl⟩,ah hD,ai,[],rfl,rfl,λz h=>nomatch h⟩ (λi ys τ G _ q=>q.2.2.1) ?_ ?_
  ·rintro i ys τ G hi ⟨⟨v,rfl⟩,sG,hG,zs,rfl,zJ,UO⟩
   have hi:i<m:=by omega
   refine o7 ?_
   have GU:=sG _ _ ht0
   have tp2:=CC.mono sG tp0
   have Vz:=sG.seq hS1
   refine⟨_,O,_,O,_,_,O,O,_,_,_,O,(aG.refl _).seq Vz,'b',λc2=>⟨_,O,_,_,O,O,.inl ⟨'b','b'⟩,_,_,O,O,_,O,_,_,_,_,_,O,GU,tp2,UN,'b','b','b',λz G2 z1 z2 s2=>⟨(s2 _ _ hG),?_,⟨_,O⟩,(aL hD (sG.trans s2)),ai,?_⟩⟩⟩
   ·rw[aa9];exact abr (show zs.length<=100 by omega) 'c'
   refine⟨zs++[z],by rw[abw];rfl,by rw[abq,zJ];rfl,λy hy=>?_⟩
   rcases abG.mp hy with q|q
   ·exact UO y q
   ·rw[abf.mp q];exact⟨z1,by omega⟩
  rintro ys τ G ⟨⟨v,rfl⟩,sG,hG,zs,rfl,zJ,UO⟩
  have zJ:zs.length=m:=by omega
  have hz4:1<=zs.length/\zs.length<=4:=by omega
  have Rg:∀z∈zs,gh z/\z.length<=2000:=λz hz=>⟨(UO z hz).1,by have:=(UO z hz).2;omega⟩
  have zl:(zs.map V.str).length=zs.length:=aa9 _
  dsimp only[bQ]
  have Oa:=sG _ _ ht0
  have VH:=CC.mono sG tp0
  have t5:=t1.trans sG
  have tpl:=VH.length
  clear UO hD sG tp0 ht0 t1 hm
  refine⟨_,O,Qw,O,⟨_,aN.of Oa⟩,λDa VI=>?_⟩
  have D7:(upd G Da (.lst [])) Da≠none:=by rw[ai];intro q;cases q
  have za:∀{J:Hp}{ys:List V},aG G J->J Da=some (.lst ys)->∀b,J b=none->(upd G Da (.lst [])) b=none:=λsJ hJ b hb=>(aH (λq=>by rw[q,hJ]at hb;cases hb)).trans (sJ.free hb)
  generalize Xo:upd G Da (.lst [])=A0 at D7 za
  refine bZ (K:=K) (a:=Qw) (xs:=ts0) (λi ys τ G1=>(∃v,τ=[v,some (.ref D)])/\aG G G1/\G1 Da=some (.lst ys)/\ni A0 G1 zs ys (Lp.take i)) ⟨⟨_,rfl⟩,ah VI,ai,.nil⟩ (λi ys τ G1 _ q=>⟨aN.of (q.2.1 _ _ Oa),q.2.2.1⟩) ?_ ?_
  ·rintro i e ys τ G1 hi ⟨⟨v,rfl⟩,sG,hG1,an⟩
   obtain⟨x,hx,t6,rfl,ht6⟩:=aI VH i e hi
   have hil:i<Lp.length:=(abd.mp hx).1
   have hyl:=an.length
   rw[abJ]at hyl
   have htG:=sG _ _ ht6
   have hDG:=sG _ _ hG
   refine o7 ?_
   refine⟨_,O,D,O,⟨_,aN.of hDG⟩,λE1 Li=>?_⟩
   have hB0:(upd G1 E1 (.lst [])) E1≠none:=by rw[ai];intro q;cases q
   have zc:∀{J:Hp}{ys:List V},aG G1 J->J E1=some (.lst ys)->∀b,J b=none->(upd G1 E1 (.lst [])) b=none:=λsJ hJ b hb=>(aH (λq=>by rw[q,hJ]at hb;cases hb)).trans (sJ.free hb)
   have hB2:∀b,(upd G1 E1 (.lst [])) b=none->A0 b=none:=λb hb=>za sG hG1 b ((ah Li).free hb)
   have aad:=za sG hG1 E1 Li
   generalize hBe:upd G1 E1 (.lst [])=B0 at hB0 zc hB2
   refine bZ (K:=K) (a:=D) (xs:=zs.map V.str) (λj ws τ G2=>(∃v,τ=[v,some (.ref t6)])/\aG G1 G2/\G2 E1=some (.lst ws)/\Rdz B0 G2 x ws (zs.take j)) ⟨⟨_,rfl⟩,ah Li,ai,.nil⟩ (λj ws τ G2 _ q=>⟨aN.of (q.2.1 _ _ hDG),q.2.2.1⟩) ?_ ?_
   ·rintro j e ws τ G2 hj ⟨⟨v,rfl⟩,Qx,VJ,rz⟩
    obtain⟨z,hz,rfl⟩:=rj hj
    have hzb:=Rg z (abi hz)
    have hwl:=rz.length
    rw[abJ]at hwl
    refine o7 ?_
    refine⟨_,O,_,O,t6,z,x,O,Qx _ _ htG,hzb.2,λv2 G3 rv s3=>?_⟩
    have hG3:=s3 _ _ VJ
    refine⟨hG3,abr (show ws.length<=100 by omega) 'c',⟨_,O⟩,aL Li (Qx.trans s3),ai,?_⟩
    rw[bw hz]
    exact cu (aQ (λ_ _ q=>o8.set hB0 (o8.mono s3 q)) rz) (.cons (o8.set hB0 (o8.old (zc Qx VJ) rv)) .nil)
   rintro ws τ G2 ⟨⟨v,rfl⟩,Qx,VJ,rz⟩
   rw[zl,aby (abh _)]at rz
   have hG3:=Qx _ _ hG1
   refine⟨hG3,abr (show ys.length<=100 by omega) 'c',⟨_,O⟩,aL VI (sG.trans Qx),ai,?_⟩
   rw[bw hx]
   exact cu (ni.set D7 (ni.mono Qx an)) (ni.set D7 (.cons ⟨E1,ws,rfl,aad,VJ,aQ (λ_ _ q=>o8.old hB2 q) rz⟩ .nil))
  rintro fX τ J ⟨⟨v,rfl⟩,sJ,hJ,an⟩
  rw[tpl,aby (abh _)]at an
  dsimp only[bQ]
  have htJ:=sJ _ _ Oa
  have tpJ:=CC.mono sJ VH
  refine⟨_,O,Qw,O,⟨_,aN.of htJ⟩,λwV Qy=>?_⟩
  refine bZ (K:=K) (a:=Qw) (xs:=ts0) (λi ys τ J1=>(∃v,τ=[v])/\aG J J1/\J1 wV=some (.lst ys)/\vE (aM 54) J1 ys (Lp.take i)) ⟨⟨_,rfl⟩,ah Qy,ai,.nil⟩ (λi ys τ J1 _ q=>⟨aN.of (q.2.1 _ _ htJ),q.2.2.1⟩) ?_ ?_
  ·rintro i e ys τ J1 hi ⟨⟨v,rfl⟩,D8,Iz,mk⟩
   obtain⟨x,hx,t5,rfl,Oa⟩:=aI tpJ i e hi
   have hil:i<Lp.length:=(abd.mp hx).1
   have hyl:=mk.length
   rw[abJ]at hyl
   refine o7 ?_
   refine⟨_,O,t5,x.1,x.2.1,x.2.2.1,x.2.2.2.a,x.2.2.2.b,x.2.2.2.c,x.2.2.2.d,O,D8 _ _ Oa,UN x (abi hx),λy dy J2 hy0 hy s2=>?_⟩
   have UB:=s2 _ _ Iz
   refine⟨UB,abr (show ys.length<=100 by omega) 'c',⟨_,O⟩,aL Qy (D8.trans s2),ai,?_⟩
   rw[bw hx]
   exact cu (vE.but UB (vE.mono s2 mk)) (vE.but UB (.cons ⟨y,dy,rfl,hy⟩ .nil))
  rintro ys τ J1 ⟨⟨v,rfl⟩,D8,Iz,mk⟩
  rw[tpl,aby (abh _)]at mk
  have Q5:=D8 _ _ (sJ _ _ hG)
  refine⟨_,O,D,_,O,.inl (aN.of Q5),λX5 pG=>⟨(by show(2:Nat)<=sizeLine;decide),λL5 Qz=>?_⟩⟩
  (have u2:=ah (o:=HO.lst (List.map V.str zs)) pG;have g2:=ai (H:=J1) (a:=X5) (o:=HO.lst (List.map V.str zs));generalize upd J1 X5 (HO.lst (List.map V.str zs))=I2 at u2 g2 Qz⊢;have u3:=ah (o:=HO.lst [V.ref wV,V.ref X5]) Qz;have g3:=ai (H:=I2) (a:=L5) (o:=HO.lst [V.ref wV,V.ref X5]);generalize upd I2 L5 (HO.lst [V.ref wV,V.ref X5])=I3 at u3 g3⊢)
  have gX:=u3 _ _ g2
  have LJ:=u2.trans u3
  dsimp only[bQ]
  have Fd:=D8.trans LJ
  have aln:=an.length
  have mkn:=mk.length
  have sG3:=sJ.trans Fd
  refine cR (t:=qQ _ _ _) (λσ' H'=>aG G H'/\∃(Lq Oj:List V)(qO:List iK),σ'=[some (.ref a),some (.ref Qw),some (.int (m:Int)),some (.ref D),some (.ref Da),some (.ref L5),none,none,none,none,none,none,none]/\H' Da=some (.lst Lq)/\ni A0 H' zs Lq qO/\H' wV=some (.lst Oj)/\vE (aM 54) H' Oj qO/\(∀x∈qO,AE x)/\1<=qO.length/\qO.length<=6/\H' L5=some (.lst [.ref wV,.ref X5])/\H' X5=some (.lst (zs.map V.str))) ?_ (λgo=>?_)
  rotate_left
  ·have hS3:=(sG3).seq (t5.seq hS)
   have no:=go _ _ ⟨sG3,fX,ys,Lp,rfl,Fd _ _ hJ,ni.mono Fd an,LJ _ _ Iz,vE.mono LJ mk,UN,by omega,by omega,g3,gX⟩
   refine⟨_,O,_,_,_,O,(aG.refl _).seq hS3,'b',λc7=>⟨_,_,O,O,⟨'b','b'⟩,_,_,O,O,'b',O,_,O,?_⟩⟩
   refine OZ (λc=>?_) (λc=>no)
   clear no
   obtain⟨w0,hw0⟩:∃w,fX[0]?=some w:=⟨_,abk 'b'⟩
   obtain⟨x0,hx0,aw⟩:=aI an 0 w0 hw0
   obtain⟨y0,hy0⟩:∃w,ys[0]?=some w:=⟨_,abk 'b'⟩
   obtain⟨x0',UP,my⟩:=aI mk 0 y0 hy0
   rw[hx0]at UP;cases UP
   have pF:fu fX 0=some w0:=bh (j:=0) hw0
   have D9:fu ys 0=some y0:=bh (j:=0) hy0
   have at2:fu [V.ref wV,V.ref X5] 0=some (.ref wV):=rfl
   have Nk:=Fd _ _ hJ
   have GW:=LJ _ _ Iz
   have nE:wV≠Da:=λq=>by rw[q,hJ]at Qy;cases Qy
   have nX:X5≠Da:=λq=>by rw[q,D8 _ _ hJ]at pG;cases pG
   have nL:L5≠Da:=λq=>by rw[q,(D8.trans u2) _ _ hJ]at Qz;cases Qz
   have nX2:X5≠wV:=λq=>by rw[q,Iz]at pG;cases pG
   have nL2:L5≠wV:=λq=>by rw[q,u2 _ _ Iz]at Qz;cases Qz
   have lt1:fX.length<sizeLine:=abr (show fX.length<=100 by omega) 'c'
   have lt2:ys.length<sizeLine:=abr (show ys.length<=100 by omega) 'c'
   refine⟨_,O,.inl ⟨O,⟨_,aN.of Nk⟩⟩,_,O,_,_,_,_,O,O,aN.of Nk,pF,_,_,_,O,O,Nk,lt1,_,O,?_⟩
   have k1:=ai (H:=I3) (a:=Da) (o:=HO.lst (fX++[w0]))
   have kL:upd I3 Da (.lst (fX++[w0])) L5=some (.lst [.ref wV,.ref X5]):=(aH nL).trans g3
   have kE:upd I3 Da (.lst (fX++[w0])) wV=some (.lst ys):=(aH nE).trans GW
   have kX:upd I3 Da (.lst (fX++[w0])) X5=some (.lst (zs.map V.str)):=(aH nX).trans gX
   have an4:ni A0 (upd J Da (.lst (fX++[w0]))) zs (fX++[w0]) (Lp++[x0]):=ni.set D7 (cu an (.cons aw .nil))
   have Vy:aG (upd J Da (.lst (fX++[w0]))) (upd I3 Da (.lst (fX++[w0]))):=Ic Fd
   have nEJ:upd J Da (.lst (fX++[w0])) wV=none:=(aH nE).trans Qy
   have VL:vE (aM 54) (upd I3 Da (.lst (fX++[w0]))) (ys++[y0]) (Lp++[x0]):=vE.but Nk (vE.mono LJ (cu mk (.cons my .nil)))
   have sG4:aG G (upd I3 Da (.lst (fX++[w0]))):=aL VI sG3
   generalize upd I3 Da (.lst (fX++[w0]))=I4 at k1 kL kE kX Vy VL sG4⊢
   refine⟨_,_,_,_,O,O,aN.of kL,O,.inl ⟨O,⟨_,aN.of kE⟩⟩,_,O,_,_,_,_,O,O,aN.of kL,O,_,_,_,_,O,O,aN.of kE,D9,_,_,_,O,O,kE,lt2,?_⟩
   refine go _ _ ⟨aL (sJ.free Qy) sG4,fX++[w0],ys++[y0],Lp++[x0],rfl,(aH nE.symm).trans k1,ni.mono (aL nEJ Vy) an4,ai,vE.but kE VL,λx hx=>?_,by rw[abq];omega,by rw[abq];show Lp.length+1<=6;omega,(aH nL2).trans kL,(aH nX2).trans kX⟩
   rcases abG.mp hx with q|q
   ·exact UN x q
   ·rw[abf.mp q];exact UN _ (abi hx0)
  rintro σ' G5 ⟨sG5,Lq,Oj,qO,rfl,UQ,Ol,hE5,mk5,UR,hc1,hc6,gL5,gX5⟩
  have Ol:=ni.HU Ol
  have hS5:=sG5.seq (t5.seq hS)
  have VM:=sG5 _ _ hG
  clear mk gX g3 Iz Qy u2 u3 LJ Qz pG g2 D8 Q5 Fd an hJ za tpJ htJ sJ VI VH Oa
  refine⟨_,O,_,_,_,O,(aG.refl _).seq hS5,'b',λc3=>⟨(by show(1:Nat)<=sizeLine;decide),λp1 hp1=>⟨_,O,_,O,_,O,_,_,O,(aL hp1 (aG.refl _)).seq hS5,λp2 hp2=>⟨_,_,_,_,O,O,(ah hp2 _ _ ai),ai,?_,λp3 hp3=>⟨_,O,⟨_,aN.of ai⟩,?_⟩⟩⟩⟩⟩
  ·have:=gn (ns.map V.int) (some 2) (some 8)
   rw[aa9]at this
   exact abv (show [V.int c3].length+(aZ (ns.map V.int) (some 2) (some 8)).length<=200 by show 1+_<=_;omega) 'c'
  obtain⟨n2,en2,ln2,_⟩:=rm V.int ns (some 2) (some 8)
  rw[en2]at hp3⊢
  rw[show [V.int c3]++n2.map V.int=(c3::n2).map V.int from rfl]
  (have u1:=ah (o:=HO.lst [V.int c3]) hp1;have q1:=ai (H:=G5) (a:=p1) (o:=HO.lst [V.int c3]);generalize upd G5 p1 (HO.lst [V.int c3])=I1 at u1 q1 hp2 hp3⊢;have u2:=ah (o:=HO.lst (List.map V.int n2)) hp2;have q2:=ai (H:=I1) (a:=p2) (o:=HO.lst (List.map V.int n2));generalize upd I1 p2 (HO.lst (List.map V.int n2))=I2 at u2 q2 hp3⊢;have u3:=ah (o:=HO.lst (List.map V.int (c3::n2))) hp3;have q3:=ai (H:=I2) (a:=p3) (o:=HO.lst (List.map V.int (c3::n2)));generalize upd I2 p3 (HO.lst (List.map V.int (c3::n2)))=I3' at u3 q3⊢)
  have s1:=u1.trans (u2.trans u3)
  clear u1 u2 u3 q1 q2
  refine ny (K:=K) (a:=p3) (xs:=(c3::n2).map V.int) (λi σ J=>aG I3' J/\∃v6 v7 v8 v9 v10 v11 Um,σ=[some (.ref a),some (.ref Qw),some (.int (m:Int)),some (.ref D),some (.ref Da),some (.ref L5),v6,v7,v8,v9,v10,v11,Um]) ⟨aG.refl _,_,_,_,_,_,_,_,rfl⟩ (λi σ J _ q=>aN.of (q.1 _ _ q3)) ?_ ?_
  rotate_left
  ·rintro σ J ⟨sJ,v6,v7,v8,v9,v10,v11,Um,rfl⟩
   have sJ:=s1.trans sJ
   have gLJ:=sJ _ _ gL5
   have pF:fu [V.ref wV,V.ref X5] 0=some (.ref wV):=rfl
   have D9:fu [V.ref wV,V.ref X5] 1=some (.ref X5):=rfl
   refine⟨_,O,L5,_,_,_,O,O,aN.of gLJ,pF,_,O,L5,_,_,_,O,O,aN.of gLJ,D9,wV,X5,Oj,qO,zs,.non,.at .non,0,O,sJ _ _ hE5,vE.mono sJ mk5,UR,by omega,sJ _ _ gX5,by omega,Rg,by decide,⟨O,O⟩,λH9 _=>?_⟩
   exact⟨_,_,O,O,k _⟩
  rintro i e σ J hi ⟨sJ,v6,v7,v8,v9,v10,v11,Um,rfl⟩
  obtain⟨c,_,rfl⟩:=List.mem_map.mp (abi hi)
  have Q2:=s1.trans sJ
  have US:=Q2 _ _ UQ
  have hDJ:=Q2 _ _ VM
  have an6:=nh.mono Q2 Ol
  have aln:=an6.length
  have psl:(List.range qO.length).length=qO.length:=List.length_range
  have Uz:∀p∈List.range qO.length,p<qO.length:=λp hp=>acJ.mp hp
  have pne:List.range qO.length≠[]:=λq=>by rw[q]at psl;simp at psl;omega
  have Vx:(gi qO zs).length=zs.length:=aa9 _
  dsimp only[bQ]
  have w0:=abN c (show(1000000007:Int)≠0 by decide)
  have w1:=abL c (show(0:Int)<1000000007 by decide)
  refine⟨_,O,_,O,_,_,O,.inl (aN.of hDJ),_,O,_,_,O,.inl (aN.of US),_,O,'b','b',λlp qI=>⟨_,O,_,_,O,O,'b',?_⟩⟩
  rw[aln,Dn]
  (have x1:=ah (o:=HO.lst (List.map nV (List.range qO.length))) qI;have g1:=ai (H:=J) (a:=lp) (o:=HO.lst (List.map nV (List.range qO.length)));generalize upd J lp (HO.lst (List.map nV (List.range qO.length)))=J1 at x1 g1⊢)
  have D8:=Q2.trans x1
  have grb:QY (gi qO zs) (List.range qO.length) 0<7:=by unfold QY;rw[psl];split<;>omega
  refine⟨Da,lp,c % 1000000007,0,Lq,qO,zs,A0,List.range qO.length,by rw[zl];rfl,x1 _ _ US,nh.mono x1 an6,by omega,by omega,by omega,g1,Uz,pne,by omega,w0,by omega,by decide,grb,λu v H2 ok tr s2=>?_⟩
  dsimp only[bQ]
  have Ld:=D8.trans s2
  have S9:=Ld _ _ VM
  have tr:=eU.e0 tr
  have ok:AG (gi qO zs) 6 (List.range qO.length) u:=ok
  have K9:=abN (c / 3) (show(1000000007:Int)≠0 by decide)
  have N9:=abL (c / 3) (show(0:Int)<1000000007 by decide)
  have ZZ:=abN (c / 7) (show(1000000007:Int)≠0 by decide)
  have x71:=abL (c / 7) (show(0:Int)<1000000007 by decide)
  refine⟨_,O,_,O,_,_,O,.inl (aN.of S9),_,O,_,_,O,O,⟨'b','b'⟩,_,_,O,O,'b',?_⟩
  refine⟨GJ,gi qO zs,List.range qO.length,u,v,c / 3 % 1000000007,0,λb _=>rfl,by rw[zl,Vx];rfl,by decide,tr,ok,pne,List.nodup_range,by omega,by omega,K9,by omega,by decide,λv3 H3 bad s3=>?_⟩
  dsimp only[bQ]
  obtain⟨t3,rt3,bd3⟩:=bad.mono Du
  have UT:=Ld.trans s3
  have GW:=UT _ _ hE5
  have mk3:=vE.mono UT mk5
  have gX3:=UT _ _ gX5
  have gL3:=UT _ _ gL5
  have tr3:=eU.mono s3 tr
  have pF:fu [V.ref wV,V.ref X5] 0=some (.ref wV):=rfl
  have D9:fu [V.ref wV,V.ref X5] 1=some (.ref X5):=rfl
  refine⟨_,O,_,_,_,_,O,O,aN.of gL3,O,_,O,_,_,_,_,O,O,aN.of gL3,O,_,O,?_⟩
  refine⟨wV,X5,Oj,qO,zs,v,kK 6 u,14,O,GW,mk3,UR,by omega,gX3,by omega,Rg,by decide,eU.rt tr3,λH4 s4=>?_⟩
  rw[kZ ok (by decide:6<9)]
  have gL4:=s4 _ _ gL3
  have Lk:=s4 _ _ GW
  have gX4:=s4 _ _ gX3
  have VL:=vE.mono s4 mk3
  have rt4:=rt3.mono s4
  refine⟨_,_,O,O,_,O,bE (⟨_,O,_,_,_,_,O,O,aN.of gL4,O,_,O,_,_,_,_,O,O,aN.of gL4,O,_,O,?_⟩)⟩
  refine⟨wV,X5,Oj,qO,zs,v3,t3,17,O,Lk,VL,UR,by omega,gX4,by omega,Rg,by decide,rt4,λH5 s5=>?_⟩
  rw[bd3 9]
  have s35:=s4.trans s5
  have VN:=UT.trans s35
  have aae:=VN _ _ VM
  have tr5:=eU.mono s35 tr3
  refine⟨_,_,O,O,_,O,bE (⟨_,O,_,O,_,_,O,.inl (aN.of aae),_,O,_,O,_,_,O,O,⟨'b','b'⟩,_,_,O,O,'b',?_⟩)⟩
  refine⟨GJ,gi qO zs,List.range qO.length,u,v,c / 7 % 1000000007,0,Da,Lq,qO,zs,A0,λb _=>rfl,by rw[zl];rfl,by decide,by decide,O,VN _ _ UQ,nh.mono VN Ol,by omega,by omega,by omega,by omega,Uz,tr5,ok,pne,Ie,by omega,ZZ,by omega,by decide,λao vo b to H6 hao rto so s6=>?_⟩
  refine⟨_,_,O,bD.of hao,O,_,_,O,_,_,O,O,?_⟩
  have rto:=rto.mono Du
  have UU:=VN.trans s6
  have hE6:=UU _ _ hE5
  have mk6:=vE.mono UU mk5
  have gX6:=UU _ _ gX5
  have gL6:=UU _ _ gL5
  have tr6:=eU.mono s6 tr5
  refine⟨_,O,_,_,_,_,O,O,aN.of gL6,O,_,O,_,_,_,_,O,O,aN.of gL6,O,_,O,?_⟩
  refine⟨wV,X5,Oj,qO,zs,vo,to,16,O,hE6,mk6,UR,by omega,gX6,by omega,Rg,by decide,rto,λH7 s7=>?_⟩
  rw[so 9 'c']
  have tr7:=eU.mono s7 tr6
  have ne:neT 6 u:=N6 ok 'b'
  refine⟨_,O,_,_,_,_,O,.bl _,.inl ⟨_,⟨O,O⟩⟩,_,O,bE (⟨_,O,_,O,O,_,O,WE rfl (⟨_,O,?_⟩)⟩)⟩
  refine⟨GJ,6,v,u,O,by decide,tr7,ne,λH8 s8=>?_⟩
  have tr8:=eU.mono s8 tr7
  refine⟨_,O,_,_,_,_,O,.int _,.inl ⟨_,⟨O,O⟩⟩,_,O,bE (⟨_,O,_,O,?_⟩)⟩
  refine⟨GJ,6,v,u,O,by decide,tr8,ne,λH9 s9=>?_⟩
  have tr9:=eU.mono s9 tr8
  have LF:=s7.trans (s8.trans s9)
  have sJ9:=UU.trans LF
  have hE9:=LF _ _ hE6
  have mk9:=vE.mono LF mk6
  have gX9:=LF _ _ gX6
  have gL9:=LF _ _ gL6
  have RU:=sJ9 _ _ VM
  have td:TopD K H9 (.ref X5) (.ref D):=⟨1,X5,D,_,_,rfl,rfl,by decide,rfl,.inr ⟨aN.of gX9,aN.of RU⟩,EL (uf _)⟩
  refine⟨O,_,O,rdJ rfl (⟨_,O,_,_,_,_,O,O,aN.of gL9,O,_,O,td,_,O,bE (⟨_,O,_,_,_,_,O,O,aN.of gL9,O,_,O,_,_,_,_,O,O,aN.of gL9,O,_,O,?_⟩)⟩)⟩
  refine⟨wV,X5,Oj,qO,zs,v,kK 6 u,14,O,hE9,mk9,UR,by omega,gX9,by omega,Rg,by decide,eU.rt tr9,λOP JK=>?_⟩
  rw[kZ ok (by decide:6<9)]
  have sE:aG J OP:=x1.trans (s2.trans (s3.trans (s35.trans (s6.trans (LF.trans JK)))))
  refine⟨_,_,O,O,_,O,bE ⟨sJ.trans sE,_,_,_,_,_,_,_,O⟩⟩
end
end
theorem all_mk{l:W.OpenLaw}{w:World}{K:W.Frag}{h:Heap}{mg:Str->Option Value}{fa yR oH kc AQ jI cZ oJ sU i7 m9 qe qf nc sV ng vV sW Lr D4 yS sX qg yT lB yU sZ kg oK GY oM tD qh vW tE vX tF vY vZ qi tG yV tH qj tK wc wg tL wj kh lC qk tM lE Ls bR jJ d8 gZ tN tO ki kj Cm:Addr}{od5 Ol aaf QA:Option Addr}{sl5 aag:Array (Option Value)}{oc5 kV5 dc5 pm5 VO ct5 aah QB QC QD Nl QE:Value}{Fl:Str}{cg:Addr}(X:K.In h)(G:h.Ns mainGlobals mg)(Rb:mg "law"=some (.ref fa))(Fo:W.nsIn K mainGlobals "Dialect"=some (some (.ref bR)))(Nm:W.nsIn K mainGlobals "Turn"=some (some (.ref jJ)))(iR:W.nsIn K mainGlobals "DialectError"=some (some (.ref d8)))(uV:W.nsIn K mainGlobals "NoText"=some (some (.ref tN)))(mR:W.nsIn K mainGlobals "NoDialect"=some (some (.ref ki)))(l0:FQ K "is_whole" qv yR)(l1:FQ K "is_printable" jr oH)(l2:FQ K "has_signs_alone" e9 kc)(l3:FQ K "is_text" ud AQ)(l4:FQ K "are_unlike_signs" eo jI)(a5:W.findIn K (.ref bR) "__init__"=some (some (.ref cZ)))(i5:W.isFn K (.ref cZ)=true)(l5:K.lookup cZ=FO "__init__" "Dialect.__init__" bG (.ref cg) oc5 od5 kV5 dc5 pm5 Ol VO ct5 sl5)(c5:W.codeIn K VO "Dialect.__init__"=true)(k5:W.keepIn K (.ref cZ)=true){UW:Option Addr}{aai:Nat}{UX:Array (Option Value)}{UY UZ:Tok}(d5:K.lookup cg=some ⟨.type "tuple",UW,.seq #[.str ("":Str) UY,.str ("":Str) UZ,.bool false,.bool false,.bool false,.bool false] aai,UX⟩)(l6:FV K bR "told" "Dialect.told" jt oJ)(l7:FQ K "dialect_of" lK sU)(l8:FQ K "step_at_beginning" fV i7)(l9:FQ K "step_in_plain" iL m9)(l10:FQ K "step_within" kC qe)(l11:FQ K "step_behind" kD qf)(l12:FQ K "step_in_doubt" iM nc)(l13:FQ K "step_freed" lM sV)(l14:FV K jJ "__init__" "Turn.__init__" iN ng)(l15:FV K jJ "step" "Turn.step" nC vV)(l16:FQ K "check_text" lN sW)(l17:FQ K "walk" EH Lr)(l18:FQ K "end_of" xW D4)(l19:FQ K "table_of" qw yS)(l20:FQ K "reading_of" lO sX)(l21:FQ K "readings_of" fZ qg)(l22:FQ K "parts_of" lP yT)(l23:FQ K "are_read_alike" fP lB)(l24:FQ K "depth_of" lQ yU)(l25:FQ K "are_places" i8 sZ)(l26:FQ K "sorts_by_asking" fc kg)(l27:FQ K "sorts_places" ju oK)(l28:FQ K "sorts" xC GY)(l29:FQ K "_law_cell_at" jv oM)(l30:FQ K "_law_mixed" lR tD)(l31:FQ K "_law_number" kF qh)(l32:FQ K "_law_some" nD vW)(l33:FQ K "_law_menus" lS tE)(l34:FQ K "_law_told" nF vX)(l35:FQ K "_law_drawn" i9 tF)(l36:FQ K "_law_open" nG vY)(l37:FQ K "_law_step" nH vZ)(l38:FQ K "_law_walked" kG qi)(l39:FQ K "_law_table" lT tG)(l40:FQ K "_law_kin" qx yV)(l41:FQ K "_law_tolds" lU tH)(l42:FQ K "_law_answer" kH qj)(l43:FQ K "_law_parts" ja tK)(l44:FQ K "_law_menu" nI wc)(l45:FQ K "_law_text" jN wg)(l46:FQ K "_law_grown" gJ tL)(l47:FQ K "_law_deep" jO wj)(l48:FQ K "_law_wrong_leaf" ff kh)(l49:FQ K "_law_wrong_ask" ie lC)(l50:FQ K "_law_spoilt" kI qk)(l51:FQ K "_law_under" lV tM)(l52:FQ K "_law_otherwise" dW lE)(Q4:W.nsIn K mainGlobals "law"=RF Ls)(l53:K.lookup Ls=FO "law" "law" nJ .none aah aaf QB QC QD QA Nl QE aag)(c53:W.codeIn K Nl "law"=true)(k53:W.keepIn K (.ref Ls)=true)(Fp:W.plainGet K bR Str.empty=true)(Fq:W.hasDictIn K bR=true)(Ft:W.plainOver K bR=true)(Fv:W.findIn K (.ref bR) "__setattr__"=some (some (.builtin "object.__setattr__")))(Fw:W.makesIn K bR=true)(Fx:W.keepIn K (.ref bR)=true)(cE:W.findIn K (.ref bR) "parts"=some none)(cS:W.findIn K (.ref bR) "quotes"=some none)(cF:W.findIn K (.ref bR) "frees"=some none)(fG:W.findIn K (.ref bR) "twin"=some none)(dZ:W.findIn K (.ref bR) "wide"=some none)(d7:W.findIn K (.ref bR) "thin"=some none)(eN:W.findIn K (.ref bR) "stray"=some none)(Np:W.plainGet K jJ Str.empty=true)(Nq:W.hasDictIn K jJ=true)(Nr:W.plainOver K jJ=true)(Nt:W.findIn K (.ref jJ) "__setattr__"=some (some (.builtin "object.__setattr__")))(Nu:W.makesIn K jJ=true)(Nv:W.keepIn K (.ref jJ)=true)(bY:W.findIn K (.ref jJ) "dialect"=some none){wW wX:Str}{wY uW:List Value}{uX wZ:Bool}{w6:List Str}{uY:Option Bool}{xg uZ:Option Addr}{xh xj xm xo xq:Option Value}{u0:Value}{lF:Array DictEntry}{xr:Nat}{vd:Array (Option Value)}(iS:K.lookup d8=some (excClassObj wW wX d8 gZ wY zm uX w6 uW wZ uY xg xh xj xm xo xq "ValueError.__new__"))(iT:K.lookup gZ=some ⟨u0,uZ,.dict lF xr,vd⟩)(tP:(lF.toList.all λe=>match e.key with | .str _ _=>true|_=>false)=true)(iU:W.nsIn K gZ "__init__"=some none){IF IG:Str}{II Fy:List Value}{Fz IJ:Bool}{IK:List Str}{FA:Option Bool}{IL FD:Option Addr}{IM IP IQ IS IT:Option Value}{FF:Value}{yW:Array DictEntry}{IU:Nat}{FG:Array (Option Value)}(ve:K.lookup tN=some (excClassObj IF IG tN tO II (.ref d8::zm) Fz IK Fy IJ FA IL IM IP IQ IS IT "ValueError.__new__"))(vf:K.lookup tO=some ⟨FF,FD,.dict yW IU,FG⟩)(D5:(yW.toList.all λe=>match e.key with | .str _ _=>true|_=>false)=true)(vg:W.nsIn K tO "__init__"=some none){Cn Co:Str}{Cp Ac:List Value}{Ad Cq:Bool}{Cr:List Str}{Ae:Option Bool}{Cs Af:Option Addr}{Ct Cu Cv Cw Cy:Option Value}{Ag:Value}{qm:Array DictEntry}{Cz:Nat}{Ah:Array (Option Value)}(mS:K.lookup ki=some (excClassObj Cn Co ki kj Cp (.ref d8::zm) Ad Cr Ac Cq Ae Cs Ct Cu Cv Cw Cy "ValueError.__new__"))(mT:K.lookup kj=some ⟨Ag,Af,.dict qm Cz,Ah⟩)(yX:(qm.toList.all λe=>match e.key with | .str _ _=>true|_=>false)=true)(mU:W.nsIn K kj "__init__"=some none)(U0:W.nsIn K mainGlobals "all"=some none)(QF:W.nsIn K mainGlobals "bool"=some none)(U1:W.nsIn K mainGlobals "int"=some none)(CA:W.nsIn K mainGlobals "isinstance"=some none)(U3:W.nsIn K mainGlobals "len"=some none)(QG:W.nsIn K mainGlobals "list"=some none)(U4:W.nsIn K mainGlobals "max"=some none)(z_ord:W.nsIn K mainGlobals "ord"=some none)(Nx:W.nsIn K mainGlobals "range"=some none)(FH:W.nsIn K mainGlobals "reversed"=some none)(Lu:W.nsIn K mainGlobals "sorted"=some none)(U5:W.nsIn K mainGlobals "str"=some none)(Ny:W.nsIn K mainGlobals "tuple"=some none)(U6:W.nsIn K mainGlobals "zip"=some none){Nz:Tok}(QH:W.nsIn K mainGlobals "LINE"=some (some (.str Fl Nz)))(QI:Fl=("\n":Str)){Ai:Tok}(CB:W.nsIn K mainGlobals "MOST_SIGNS"=some (some (.int 2000 Ai)))(NB:W.nsIn K mainGlobals "START"=some (some (.ref Cm))){Lv:Option Addr}{NC:Nat}{Lw:Array (Option Value)}{Lx Ly:Tok}(NF:K.lookup Cm=some ⟨.type "tuple",Lv,.seq #[.str ("row":Str) Lx,.str ("":Str) Ly] NC,Lw⟩):∃fd:FuncData,(∀(s:Shared)(v:Value),BindsTo s fd ⟨[v],[]⟩ [("_law_script",v)])/\∀base:Heap,K.In base->base.Ns mainGlobals mg->bu l.prog w K mg base eH 22 fa fd ["_law_script"] (yQ K):=by
 have e:=Rb.symm.trans (W.mg_of X G Q4)
 cases e
 have mo:∀{n:Str}{v:Value},W.nsIn K mainGlobals n=some (some v)->mg n=some v:=λe=>W.mg_of X G e
 have mz:∀{n:Str},W.nsIn K mainGlobals n=some none->mg n=none:=λe=>W.mg_none_of X G e
 obtain⟨a0,fd0,F0⟩:=l0
 have b0:=F0.qu (ps:=["thing","least","most"])
 obtain⟨a1,fd1,F1⟩:=l1
 have b1:=F1.qY (ps:=["sign"])
 obtain⟨a2,fd2,F2⟩:=l2
 have b2:=F2.qY (ps:=["text"])
 obtain⟨a3,fd3,F3⟩:=l3
 have b3:=F3.qY (ps:=["thing"])
 obtain⟨a4,fd4,F4⟩:=l4
 have b4:=F4.qu (ps:=["thing","least","most"])
 have F5:=Mi (st:=bG) l5 c5 k5
 have b5:Binds K (W.fnOf "__init__" "Dialect.__init__" (dQ bG) (cK bG) (aA bG) (.ref cg) kV5 dc5 pm5 Ol VO ct5) ["self","parts","quotes","frees","twin","wide","thin","stray"] []:=λs us hK hl=>match us,hl with |[_,_,_,_,_,_,_,_],_=>BindsTo.of_defaults (T:=cg) rfl (hK _ _ d5) rfl rfl rfl
 obtain⟨a6,i6,fd6,F6⟩:=l6
 have b6:=F6.qY (ps:=["self"])
 obtain⟨a7,fd7,F7⟩:=l7
 have b7:=F7.qY (ps:=["told"])
 obtain⟨a8,fd8,F8⟩:=l8
 have b8:=F8.qu (ps:=["dialect","state","sign"])
 obtain⟨a9,fd9,F9⟩:=l9
 have b9:=F9.kY (ps:=["dialect","sign"])
 obtain⟨Z4,aaj,F10⟩:=l10
 have Ul:=F10.qu (ps:=["dialect","quote","sign"])
 obtain⟨S4,aak,F11⟩:=l11
 have MQ:=F11.kY (ps:=["dialect","sign"])
 obtain⟨a12,aal,F12⟩:=l12
 have XG:=F12.qu (ps:=["dialect","quote","sign"])
 obtain⟨Uo,aam,F13⟩:=l13
 have b13:=F13.qu (ps:=["dialect","quote","sign"])
 obtain⟨MR,i14,aan,F14⟩:=l14
 have b14:=F14.kY (ps:=["self","dialect"])
 obtain⟨To,i15,aao,F15⟩:=l15
 have Yh:=F15.qu (ps:=["self","state","sign"])
 obtain⟨Zm,aap,F16⟩:=l16
 have b16:=F16.qY (ps:=["thing"])
 obtain⟨Zx,aaq,F17⟩:=l17
 have b17:=F17.kY (ps:=["dialect","text"])
 obtain⟨Qh,aar,F18⟩:=l18
 have MU:=F18.qY (ps:=["walked"])
 obtain⟨a19,aas,F19⟩:=l19
 have b19:=F19.kY (ps:=["text","kinds"])
 obtain⟨Uv,aat,F20⟩:=l20
 have b20:=F20.kY (ps:=["dialect","text"])
 obtain⟨MV,aau,F21⟩:=l21
 have b21:=F21.kY (ps:=["dialects","text"])
 obtain⟨T6,aav,F22⟩:=l22
 have Tt:=F22.kY (ps:=["readings","places"])
 obtain⟨ZC,aaw,F23⟩:=l23
 have b23:=F23.kY (ps:=["all_readings","places"])
 obtain⟨MW,aax,F24⟩:=l24
 have b24:=F24.qY (ps:=["tree"])
 obtain⟨Tu,aay,F25⟩:=l25
 have b25:=F25.kY (ps:=["thing","places"])
 obtain⟨Xj,aaz,F26⟩:=l26
 have b26:=F26.Sd (ps:=["all_readings","places","at","branches"])
 obtain⟨Z5,aaA,F27⟩:=l27
 have Z6:=F27.qu (ps:=["all_readings","places","thing"])
 obtain⟨Qi,aaB,F28⟩:=l28
 have Sn:=F28.qu (ps:=["dialects","texts","tree"])
 obtain⟨P7,aaC,F29⟩:=l29
 have b29:=F29.kY (ps:=["_law_script","_law_k"])
 obtain⟨Z7,aaD,F30⟩:=l30
 have b30:=F30.kY (ps:=["_law_number_here","_law_salt"])
 obtain⟨So,aaE,F31⟩:=l31
 have b31:=F31.kY (ps:=["_law_cell","_law_salt"])
 obtain⟨a32,aaF,F32⟩:=l32
 have TF:=F32.qu (ps:=["_law_number_here","_law_many","_law_menu_here"])
 obtain⟨ZD,aaG,F33⟩:=l33
 have b33:=F33.qY (ps:=["_law_way"])
 obtain⟨Sv,aaH,F34⟩:=l34
 have b34:=F34.qY (ps:=["_law_cell"])
 obtain⟨TH,aaI,F35⟩:=l35
 have b35:=F35.kY (ps:=["_law_cell","_law_many"])
 obtain⟨Xh,aaJ,F36⟩:=l36
 have b36:=F36.qu (ps:=["_law_told_here","_law_state","_law_sign"])
 obtain⟨ZE,aaK,F37⟩:=l37
 have b37:=F37.qu (ps:=["_law_told_here","_law_state","_law_sign"])
 obtain⟨XW,aaL,F38⟩:=l38
 have W7:=F38.kY (ps:=["_law_told_here","_law_text_here"])
 obtain⟨SS,aaM,F39⟩:=l39
 have b39:=F39.kY (ps:=["_law_text_here","_law_kinds"])
 obtain⟨Yk,aaN,F40⟩:=l40
 have b40:=F40.kY (ps:=["_law_told_here","_law_x"])
 obtain⟨Sz,aaO,F41⟩:=l41
 have ZF:=F41.kY (ps:=["_law_cells","_law_many"])
 obtain⟨ZG,aaP,F42⟩:=l42
 have XX:=F42.kY (ps:=["_law_told_here","_law_text_here"])
 obtain⟨a43,aaQ,F43⟩:=l43
 have b43:=F43.qu (ps:=["_law_answers","_law_at","_law_places"])
 obtain⟨UD,aaR,F44⟩:=l44
 have Yl:=F44.qY (ps:=["_law_tolds_here"])
 obtain⟨XZ,aaS,F45⟩:=l45
 have b45:=F45.qu (ps:=["_law_cell","_law_tolds_here","_law_most"])
 obtain⟨Xa,aaT,F46⟩:=l46
 have Ym:=F46.Se (ps:=["_law_answers","_law_many","_law_places","_law_cell","_law_deep_here"])
 obtain⟨a47,aaU,F47⟩:=l47
 have b47:=F47.qY (ps:=["_law_tree"])
 obtain⟨a48,aaV,F48⟩:=l48
 have b48:=F48.kY (ps:=["_law_tree","_law_x"])
 obtain⟨SJ,aaW,F49⟩:=l49
 have Yc:=F49.qu (ps:=["_law_tree","_law_many","_law_x"])
 obtain⟨Z8,aaX,F50⟩:=l50
 have Z9:=F50.Sd (ps:=["_law_tree","_law_many","_law_cell","_law_deep_here"])
 obtain⟨UE,aaY,F51⟩:=l51
 have b51:=F51.qY (ps:=["_law_tree"])
 obtain⟨Yd,aaZ,F52⟩:=l52
 have b52:=F52.Se (ps:=["_law_answers","_law_many","_law_tree","_law_cell","_law_deep_here"])
 have F53:=JF (st:=nJ) l53 c53 k53
 have b53:=F53.qY (ps:=["_law_script"])
 exact⟨W.fnOf "law" "law" (dQ nJ) (cK nJ) (aA nJ) .none QB QC QD QA Nl QE,λs v=>.of_eq rfl,λbase _ _=>Qv (aM:=λi=>[yR,oH,kc,AQ,jI,cZ,oJ,sU,i7,m9,qe,qf,nc,sV,ng,vV,sW,Lr,D4,yS,sX,qg,yT,lB,yU,sZ,kg,oK,GY,oM,tD,qh,vW,tE,vX,tF,vY,vZ,qi,tG,yV,tH,qj,tK,wc,wg,tL,wj,kh,lC,qk,tM,lE,fa,bR,jJ,d8,gZ,tN,tO,ki,kj,Cm,cg].getD i fa) (aR:=λi=>[fd0,fd1,fd2,fd3,fd4,FN "__init__" "Dialect.__init__" bG (.ref cg) kV5 dc5 pm5 Ol VO ct5,fd6,fd7,fd8,fd9,aaj,aak,aal,aam,aan,aao,aap,aaq,aar,aas,aat,aau,aav,aaw,aax,aay,aaz,aaA,aaB,aaC,aaD,aaE,aaF,aaG,aaH,aaI,aaJ,aaK,aaL,aaM,aaN,aaO,aaP,aaQ,aaR,aaS,aaT,aaU,aaV,aaW,aaX,aaY,aaZ,FN "law" "law" nJ .none QB QC QD QA Nl QE].getD i (fd0)) (dO:=λi=>[Fl].getD i "") ⟨F0,b0,mo a0,F1,b1,mo a1,F2,b2,mo a2,F3,b3,mo a3,F4,b4,mo a4,F5,b5,F6,b6,⟨a6,i6,F6.kp⟩,F7,b7,mo a7,F8,b8,mo a8,F9,b9,mo a9,F10,Ul,mo Z4,F11,MQ,mo S4,F12,XG,mo a12,F13,b13,mo Uo,F14,b14,F15,Yh,⟨To,i15,F15.kp⟩,F16,b16,mo Zm,F17,b17,mo Zx,F18,MU,mo Qh,F19,b19,mo a19,F20,b20,mo Uv,F21,b21,mo MV,F22,Tt,mo T6,F23,b23,mo ZC,F24,b24,mo MW,F25,b25,mo Tu,F26,b26,mo Xj,F27,Z6,mo Z5,F28,Sn,mo Qi,F29,b29,mo P7,F30,b30,mo Z7,F31,b31,mo So,F32,TF,mo a32,F33,b33,mo ZD,F34,b34,mo Sv,F35,b35,mo TH,F36,b36,mo Xh,F37,b37,mo ZE,F38,W7,mo XW,F39,b39,mo SS,F40,b40,mo Yk,F41,ZF,mo Sz,F42,XX,mo ZG,F43,b43,mo a43,F44,Yl,mo UD,F45,b45,mo XZ,F46,Ym,mo Xa,F47,b47,mo a47,F48,b48,mo a48,F49,Yc,mo SJ,F50,Z9,mo Z8,F51,b51,mo UE,F52,b52,mo Yd,F53,b53,mo Q4,⟨Fp,Fq,Ft,Fv⟩,mo Fo,⟨Fw,a5,i5,Fx⟩,cE,cS,cF,fG,dZ,d7,eN,⟨Np,Nq,Nr,Nt⟩,mo Nm,⟨Nu,MR,i14,Nv⟩,bY,mo iR,⟨⟨_,_,_,_,_,_,_,_,_,_,_,_,_,_,iS⟩,⟨_,_,_,_,_,iT,tP⟩,iU⟩,mo uV,⟨⟨_,_,_,_,_,_,_,_,_,_,_,_,_,_,ve⟩,⟨_,_,_,_,_,vf,D5⟩,vg⟩,mo mR,⟨⟨_,_,_,_,_,_,_,_,_,_,_,_,_,_,mS⟩,⟨_,_,_,_,_,mT,yX⟩,mU⟩,mz U0,mz QF,mz U1,mz CA,mz U3,mz QG,mz U4,mz z_ord,mz Nx,mz FH,mz Lu,mz U5,mz Ny,mz U6,⟨_,mo QH⟩,QI,⟨_,mo CB⟩,mo NB,⟨_,_,_,NF,rfl,rfl,(by show 2<=sizeLine;decide),(.cons ⟨_,rfl⟩ (.cons ⟨_,rfl⟩ .nil))⟩⟩⟩
theorem walk{l:W.OpenLaw}{q:Program}{loose:List Str}{XP:(Str->Option Value)->Heap->Prop}{YP:World->Heap->Prop}{d:DefRec}{K:Params->W.Frag}(hn:l.most=some 63)(hdf:d.params.defaults=[])(hY:∀(w:World)(h:Heap),YP w h->(K w.params).In h)(F:∀(w:World)(mg:Str->Option Value)(fa:Addr)(h:Heap),(K w.params).In h->h.Ns mainGlobals mg->mg d.name=some (.ref fa)->∃fd:FuncData,(∀(s:Shared)(u:Value),BindsTo s fd ⟨[u],[]⟩ [("_law_script",u)])/\∀base:Heap,(K w.params).In base->base.Ns mainGlobals mg->bu l.prog w (K w.params) mg base eH 22 fa fd ["_law_script"] (yQ (K w.params))):W.WalkO q loose XP YP l.row.toRowW d [] (λf vs=>PySem.call f vs) :=
 L2.Ma (n:=63) (k:=22) (x:="_law_script") (CX:=λ_=>eH) (sp:=λw=>yQ (K w.params)) hn 'c' hdf ⟨rfl,by decide,by decide⟩ hY F (λ_ _ a ns hl _ hS=>⟨a,ns,rfl,hS,hl,λ_=>rfl⟩) λ_ _ _ _ _ z=>z
end My
def PySem.W.Fast.tw16633875031068098392:Unit:=()
def PySem.W.Fast.tw2432344319780809487:Unit:=()
def PySem.W.Fast.tw7459494201519345218:Unit:=()
def PySem.W.Fast.tw13017016037197051757:Unit:=()
def PySem.W.Fast.tw3890158091223049138:Unit:=()
def PySem.W.Fast.tw7224670799434548610:Unit:=()
def PySem.W.Fast.tw2927636572301994039:Unit:=()
def PySem.W.Fast.tw2946189522079321862:Unit:=()
def PySem.W.Fast.tw11639716117846897720:Unit:=()
def PySem.W.Fast.tw15393731170813854740:Unit:=()
def PySem.W.Fast.tw6869267900273765627:Unit:=()
def PySem.W.Fast.tw5187862084946651550:Unit:=()
def PySem.W.Fast.tw15915032738604788353:Unit:=()
def PySem.W.Fast.tw3642498269717814150:Unit:=()
def PySem.W.Fast.tw15197643902086516723:Unit:=()
def PySem.W.Fast.tw14676287688594953108:Unit:=()
def PySem.W.Fast.tw11577168467908786936:Unit:=()
def PySem.W.Fast.tw7525806287046407506:Unit:=()
def PySem.W.Fast.tw18064119927492461436:Unit:=()
def PySem.W.Fast.tw626360541125922678:Unit:=()
def PySem.W.Fast.tw9194399888749439277:Unit:=()
def PySem.W.Fast.tw5661770314793366177:Unit:=()
def PySem.W.Fast.tw481238344659889276:Unit:=()
def PySem.W.Fast.tw14741961316559803117:Unit:=()
def PySem.W.Fast.tw4712413587243749248:Unit:=()
def PySem.W.Fast.tw7723577233119215662:Unit:=()
def PySem.W.Fast.tw16231101126061565977:Unit:=()
def PySem.W.Fast.tw2401207646792533032:Unit:=()
def PySem.W.Fast.tw1736881783705298314:Unit:=()
def PySem.W.Fast.tw3092963908541255332:Unit:=()
def PySem.W.Fast.tw2363558117067244965:Unit:=()
def PySem.W.Fast.tw14176108418954415586:Unit:=()
def PySem.W.Fast.tw7309028734778841530:Unit:=()
def PySem.W.Fast.tw1764434575218291774:Unit:=()
def PySem.W.Fast.tw5799951582753597372:Unit:=()
def PySem.W.Fast.tw15170954540745908655:Unit:=()
def PySem.W.Fast.tw117876006229905294:Unit:=()
def PySem.W.Fast.tw16373639497126246907:Unit:=()
def PySem.W.Fast.tw5183241385922390390:Unit:=()
def PySem.W.Fast.tw13674254152206854231:Unit:=()
def PySem.W.Fast.tw1212054667988246462:Unit:=()
def PySem.W.Fast.tw987591533668506566:Unit:=()
def PySem.W.Fast.tw1205559542677300566:Unit:=()
def PySem.W.Fast.tw9141079426431284864:Unit:=()
def PySem.W.Fast.tw9403133347429436286:Unit:=()
def PySem.W.Fast.tw5884664758514074730:Unit:=()
def PySem.W.Fast.tw18309928111518131031:Unit:=()
def PySem.W.Fast.tw6918813592409986303:Unit:=()
def PySem.W.Fast.tw7094454489586602103:Unit:=()
def PySem.W.Fast.tw4661286381648124457:Unit:=()
def PySem.W.Fast.tw5163966350911839930:Unit:=()
def PySem.W.Fast.tw17280344945964700533:Unit:=()
def PySem.W.Fast.tw1983184271958793954:Unit:=()
def PySem.W.Fast.tw13944164275142287297:Unit:=()
def PySem.W.Fast.tw210961273266159057:Unit:=()
def PySem.W.Fast.tw11221524016513896899:Unit:=()
def PySem.W.Fast.tw13709030030754600713:Unit:=()
def PySem.W.Fast.tw3493714123840166532:Unit:=()
def PySem.W.Fast.tw15079211407110103319:Unit:=()
def PySem.W.Fast.tw9146161158708969368:Unit:=()
def PySem.W.Fast.tw8074286731849330229:Unit:=()
def PySem.W.Fast.tw15391303676345332936:Unit:=()
def PySem.W.Fast.tw1522264909109287096:Unit:=()
def PySem.W.Fast.tw11901817928786315508:Unit:=()
def PySem.W.Fast.tw213353038808939424:Unit:=()
def PySem.W.Fast.tw16138499081400964058:Unit:=()
def PySem.W.Fast.tw4733526061893060118:Unit:=()
def PySem.W.Fast.tw9292494493329745089:Unit:=()
def PySem.W.Fast.tw2193689550185002631:Unit:=()
def PySem.W.Fast.tw17459735533109304807:Unit:=()
def PySem.W.Fast.tw2824378859970006418:Unit:=()
def PySem.W.Fast.tw2602086386749053732:Unit:=()
def PySem.W.Fast.tw2207444125503618799:Unit:=()
def PySem.W.Fast.tw6314572291745816547:Unit:=()
def PySem.W.Fast.tw8881181247704867035:Unit:=()
def PySem.W.Fast.tw8946684005780617708:Unit:=()
def PySem.W.Fast.tw17206708551092717841:Unit:=()
def PySem.W.Fast.tw12251210927717619936:Unit:=()
def PySem.W.Fast.tw12292312181967603563:Unit:=()
def PySem.W.Fast.tw1463060201824077670:Unit:=()
def PySem.W.Fast.tw2718074078145553762:Unit:=()
def PySem.W.Fast.tw5128254245497191742:Unit:=()
def PySem.W.Fast.tw6114102923879737784:Unit:=()
def PySem.W.Fast.tw7529929782835524834:Unit:=()
def PySem.W.Fast.tw9879378629970954872:Unit:=()
def PySem.W.Fast.tw8083287594774707163:Unit:=()
def PySem.W.Fast.tw16057827825123318530:Unit:=()
def PySem.W.Fast.tw124105786299206720:Unit:=()
def PySem.W.Fast.tw2185999372796036485:Unit:=()
def PySem.W.Fast.tw4670794305195507939:Unit:=()
def PySem.W.Fast.tw14279599242568036924:Unit:=()
def PySem.W.Fast.tw17392872723207306917:Unit:=()
def PySem.W.Fast.tw13761560146641923097:Unit:=()
def PySem.W.Fast.tw4958230630300021335:Unit:=()
open PySem PySem.W PyProof.Rows
set_option maxRecDepth 100000 in
set_option maxHeartbeats 0 in
theorem PySem.Challenge.cw_dialecthall_k86_trees_looked_at_holds : PySem.Challenge.rw_dialecthall_k86_trees_looked_at.Holds := by
 w_on;o_law;k_head;(case hw=>w_witness2)
 k_fill
 refine My.walk (l:=PySem.Challenge.rw_dialecthall_k86_trees_looked_at) rfl rfl (fun w h Y=>W.kIn_of Y) ?F
 case F =>
  intro w mg fa h KX G hmg
  refine' My.all_mk KX G hmg ?_ ?_ ?iR ?uV ?mR ?_ ?_ ?_ ?_ ?_ ?_ ?_ ?_ ?_ ?_ ?_ ?_ ?_ ?_ ?_ ?_ ?_ ?_ ?_ ?_ ?_ ?_ ?_ ?_ ?_ ?_ ?_ ?_ ?_ ?_ ?_ ?_ ?_ ?_ ?_ ?_ ?_ ?_ ?_ ?_ ?_ ?_ ?_ ?_ ?_ ?_ ?_ ?_ ?_ ?_ ?_ ?_ ?_ ?_ ?_ ?_ ?_ ?_ ?_ ?_ ?_ ?_ ?_ ?_ ?_ ?_ ?_ ?_ ?_ ?_ ?_ ?_ ?_ ?_ ?_ ?_ ?_ ?_ ?_ ?_ ?_ ?_ ?iS ?iT ?_ ?iU ?ve ?vf ?_ ?vg ?mS ?mT ?_ ?mU ?_ ?_ ?_ ?_ ?_ ?_ ?_ ?_ ?_ ?_ ?_ ?_ ?_ ?_ ?_ ?_ ?_ ?_ ?_
  (case iR=>k_is)
  (case uV=>k_is)
  (case mR=>k_is)
  (case iS=>k_is)
  (case iT=>k_is)
  (case iU=>k_is)
  (case ve=>k_is)
  (case vf=>k_is)
  (case vg=>k_is)
  (case mS=>k_is)
  (case mT=>k_is)
  (case mU=>k_is)
  all_goals try first | (refine' L2.FQ.of ?a ?l ?c ?k;(case a=>k_is);(case l=>k_is);(case c=>k_is);(case k=>k_is)) | (refine' L2.FV.of ?a ?i ?l ?c ?k;(case a=>k_is);(case i=>k_is);(case l=>k_is);(case c=>k_is);(case k=>k_is)) | (refine' L2.FE.of ?l ?c ?k;(case l=>k_is);(case c=>k_is);(case k=>k_is)) | k_is | rfl
